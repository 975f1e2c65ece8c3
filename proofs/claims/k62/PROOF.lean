import PyProof.Rows.All
import Wide.All
import OpenK.AllK
import Wide.FinOn
import HandS.ForMost
import HandS.AnyAll
import HandS.GenList
import HandS.EndTab
import HandS.IsInst
import HandS.TupAny
import HandS.Wide
import HandS.HeadHook4
import HandS.HeadWalk
import HandS.Style
import HandS.RaiseMore
import PyProof.TupleOfGen
import PyProof.ReprRoads
import PyProof.Rows.NestShow
import HandS.Deep
import HandS.TupMul
import HandS.TupLe
import HandS.Flow
import KE.DataEq
import KE.DataCmp
import KE.DataMinMax
import KE.DataAny
import KE.SortData
import HandS.FStr
import HandS.JoinGen
import KE.IntTextLaws
import KE.KDictKeyed
import HandS.Conv
import HandS.More
import HandS.CallLocal
import HandS.WideBits
import PyProof.ReprBulk
import KE.LtData
import KE.SortCalls
import PyProof.Ascii
import PyProof.Rows.ReprOcc
import KE.KeyNested
import HandS.ClsMeth
import HandS.Keys
import HandS.Head0
import HandS.Head1
import HandS.Head2
import HandS.HeadEnd
import PySem.Challenge.RW_gonemarks_k62_what_is_a_deed
set_option Elab.async false
set_option linter.all false
set_option maxRecDepth 100000
set_option maxHeartbeats 0
/-! Generator expressions consumed by all, any: over anything that PI serves, the element any expression of the layer (calls of defs too). -/
namespace GX
open PySem PySem.Spec PyProof.Rows L2 GenW

theorem over_comp {A : Around} {elt : Expr} {gs : List Comprehension} {sc : Scope} {pos : Pos} {it acc : Value} {env : Env} : A.over (.compLoop (.GeneratorExp elt gs sc pos) 0 it acc env) [] = A.deeper env := by
  rfl
theorem over_start {A : Around} {elt : Expr} {gs : List Comprehension} {sc : Scope} {pos : Pos} {it acc : Value} {env : Env} : A.over (.compStart (.GeneratorExp elt gs sc pos) 0 it acc env) [] = A.deeper env := by
  rfl

/-- the generator's own context, from its making on -/
abbrev gcx (X : Cx) (B : Around) (s : Shared) (H : Hp) (cenv : Env) (fp : List Addr) : Cx :=
  { X with A := B.deeper cenv, s_0 := s, H_0 := H, env := cenv, outer := X.stack, stack := cenv :: X.stack, ex := fp, fn := fun _ => false, pn := [], xe := fun _ _ => False }

theorem room_gx {k : Nat} {A : Around} (r : Room (k + 1) A) (env : Env) : Room k (A.in1.in1.deeper env) :=
  ⟨r.hd, by have := r.dp; show A.depth + 1 + 3 * k + 5 < _; omega, by have := r.un; show A.units + 1 + 1 + 3 + 16 * k + 200 < _; omega⟩

section
variable {X : Cx} {pins : List (Addr × Obj)}
variable {σ : L2.St} {H : Hp} {s : Shared}

/-- a name that the generator's own cells give stands for the maker's cell -/
theorem clo_cell {cells : List (Str × Addr)} {names : List (Str × NameKind)} {y : Str} {c : Addr} (have_ : ∀ q ∈ names, q.2 = .free → ∃ d, cells.lookup q.1 = some d) (e : (cloFrom cells names []).lookup y = some c) : cells.lookup y = some c := by
  rcases cloFrom_mem (PySem.mem_of_lookup e) with no | ⟨hm, hc⟩
  · cases no
  · obtain ⟨d, hd⟩ := have_ _ hm rfl
    rw [hd] at hc
    exact hc ▸ hd
theorem clo_there {cells : List (Str × Addr)} {names : List (Str × NameKind)} {y : Str} (have_ : ∀ q ∈ names, q.2 = .free → ∃ d, cells.lookup q.1 = some d) (hy : names.lookup y = some .free) :
    ∃ c, (cloFrom cells names []).lookup y = some c ∧ cells.lookup y = some c := by
  obtain ⟨c, hc⟩ := mem_lookup (cloFrom_has (cells := cells) (acc := []) (PySem.mem_of_lookup hy))
  exact ⟨c, hc, clo_cell have_ hc⟩
/-- a name of N that stands in the generator's scope and isn't one of its own is captured -/
theorem captured {N : List Str} {sc scope : Scope} {own : List (Str × Nat)} {i : Nat} {y : Str} (ok : BlkOk N sc scope own) (nd : N.Nodup) (hc : ∀ q ∈ scope.names, q.2 ≠ .cell) (hi : N[i]? = some y) (hv : Vis scope y) (no : i ∉ own.map (·.2)) : scope.names.lookup y = some .free := by
  rcases hv with k | k | k
  · exfalso
    rcases ok.own (y, .local) (PySem.mem_of_lookup k) (.inl rfl) with m | m
    · obtain ⟨q, qm, qe⟩ := List.mem_map.mp m
      have at_q : N[q.2]? = some y := (ok.ix q qm).trans (congrArg some qe)
      exact no (List.mem_map.mpr ⟨q, qm, nodup_ix nd at_q hi⟩)
    · exact m (List.mem_of_getElem? hi)
  · exact absurd rfl (hc (y, .cell) (PySem.mem_of_lookup k))
  · exact k
/-- the generator stands, not begun: its context holds -/
theorem gx_start {scope : Scope} {own : List (Str × Nat)} {fp : List Addr} {code : Value} {B : Around} {h' : Heap} {it : Value} {gobj : Obj} {g' : Array GenState} {tk : Nat} (I : Inv X pins σ H s) (ok : BlkOk X.N X.env.scope scope own) (hN : X.N.Nodup)
    (hcell : ∀ y ∈ scope.names, y.2 ≠ .cell) (hfp : ∀ b ∈ fp, FpOk X pins H b ∧ b < s.heap.objs.size) (hB : B.frames = some X.stack) (hBh : B.handled = none)
    (hn' : h'.Ns s.heap.objs.size (fun y => if y = ".0" then some it else none)) (hs' : Heap.SameBut s.heap.objs.size (s.heap.push { cls := .type "frame", data := .dict #[] }) h')
    (hgo : ∀ v, gobj.data ≠ .cell v) (hgf : gobj.isFreed = false) (hg : AllBare g') :
    Inv (gcx X B s H (genEnv scope (cloFrom X.env.cells scope.names []) s.heap.objs.size code builtinsNs X.env) fp) [(h'.objs.size, gobj)] (wipe σ (own.map (·.2))) H { s with gens := g', toks := tk, heap := h'.push gobj } := by
  have caught : ∀ q ∈ scope.names, q.2 = .free → ∃ d, X.env.cells.lookup q.1 = some d := fun q hq fr => (ok.free q hq fr).elim (fun u => I.ok.has _ (.inl u)) (fun u => I.ok.has _ (.inr u))
  have grown : ∀ b o, s.heap.get? b = some o → (h'.push gobj).get? b = some o := fun b o at_b =>
    Heap.get?_push_of_some _ (hs'.extBut b o (Nat.ne_of_lt (Heap.lt_size at_b)) (Heap.get?_push_of_some _ at_b))
  have size' : h'.objs.size = s.heap.objs.size + 1 := hs'.1.trans (Heap.size_push ..)
  have older : ∀ {y : Str} {c : Addr}, (cloFrom X.env.cells scope.names []).lookup y = some c → X.env.cells.lookup y = some c := fun at_y => clo_cell caught at_y
  have notFrame : ∀ {b : Addr}, s.heap.objs.size ≤ b → b ∉ frs X.stack := fun {b} big mem => by
    rcases List.mem_cons.mp (I.stkSub b mem) with own_ | callers
    · exact absurd (Nat.lt_of_lt_of_le I.lt (own_ ▸ big)) (Nat.lt_irrefl _)
    · exact I.nofs big callers
  have fine : (gcx X B s H (genEnv scope (cloFrom X.env.cells scope.names []) s.heap.objs.size code builtinsNs X.env) fp).Ok := by
    constructor
    case mod => exact I.ok.mod
    case kind => exact ok.kind
    case glob => exact I.ok.glob
    case blt => rfl
    case above => exact Nat.le_refl s.heap.objs.size
    case inj => exact fun y z c hy hz => I.ok.inj y z c (older hy) (older hz)
    case has =>
      intro y kinds
      rcases kinds with k | k
      · exact absurd rfl (hcell (y, .cell) (PySem.mem_of_lookup k))
      · exact (clo_there caught k).imp fun c both => both.1
    case cab => exact fun y c no => Bool.noConfusion no
    case hd => exact fun _ => hBh
    case frames => exact Around.frames_deeper hB
    case stk => exact .inr ⟨rfl, rfl⟩
    case exf => exact fun b mem => ⟨Nat.ne_of_lt (hfp b mem).2, fun y c at_y => (hfp b mem).1.2.2.2.2.1 y c (older at_y)⟩
    case bs => exact I.bs
    case bsz => exact Nat.le_trans I.ok.bsz I.sz
    case noex =>
      intro b o at_b mem
      have young := (hfp b mem).1.2.2.2.1
      exact young.elim (I.ok.noex b o at_b) fun big => Nat.not_le_of_lt (Heap.lt_size at_b) (Nat.le_trans I.ok.bsz big)
    case exfs =>
      intro b mem inFs
      have two := List.mem_cons.mp (I.stkSub b inFs)
      exact two.elim (hfp b mem).1.2.1 (hfp b mem).1.2.2.1
    case funs => exact I.stack
    case frf => exact I.stkFree
  constructor
  case ok => exact fine
  case os => rfl
  case bare => exact hg
  case base => exact Un.kept grown
  case loc =>
    refine ⟨_, hn'.push gobj, fun i y v at_i at_v vis => ?_⟩
    obtain ⟨held, notOwn⟩ := wipe_some at_v
    have fr : scope.names.lookup y = some .free := captured ok hN hcell at_i vis notOwn
    obtain ⟨c, here, there⟩ := clo_there caught fr
    have kinds := ok.free (y, .free) (PySem.mem_of_lookup fr) rfl
    obtain ⟨m, _, look⟩ := I.loc
    obtain ⟨u, rel, found⟩ := look i y v at_i held (kinds.elim (fun k => .inr (.inl k)) fun k => .inr (.inr k))
    refine ⟨u, rel, .inr ⟨.inr fr, c, here, ?_⟩⟩
    rcases found with ⟨loc_, _⟩ | ⟨_, d, at_d, cell_d⟩
    · have loc2 : X.env.scope.names.lookup y = some .local := loc_
      rcases kinds with k | k
      · exact nomatch loc2.symm.trans k
      · exact nomatch loc2.symm.trans k
    · cases there.symm.trans at_d
      exact cell_d.keeps grown
  case cell => exact fun y c at_y => (I.cell y c (older at_y)).imp fun v at_c => at_c.keeps grown
  case free => exact I.hok.fresh (Nat.le_refl s.heap.objs.size)
  case freeC => exact fun y c at_y => I.freeC y c (older at_y)
  case pin =>
    intro p mem
    obtain rfl : p = (h'.objs.size, gobj) := by simpa using mem
    have big : s.heap.objs.size ≤ h'.objs.size := size' ▸ Nat.le_succ _
    exact ⟨Heap.get?_push_size _ hgf, I.hok.fresh big, Nat.ne_of_gt (size' ▸ Nat.lt_succ_self _), notFrame big, hgo⟩
  case hok => exact I.hok.kept grown
  case len => exact (wipe_length σ _).trans I.len

/-- while the generator sleeps nothing is changed but the table of generators; the heap may grow -/
structure Slp (s s' : Shared) : Prop where
  os : s'.os = s.os
  bare : AllBare s'.gens
  keep : ∀ b o, s.heap.get? b = some o → s'.heap.get? b = some o
theorem inv_slept {s' : Shared} (I : Inv X pins σ H s) (z : Slp s s') : Inv X pins σ H s' := by
  obtain ⟨z1, z2, z3⟩ := z
  obtain ⟨hh, g, d, t, o⟩ := s'
  have ho : o = s.os := z1
  subst ho
  refine I.step (g' := g) (t' := t) (d' := d) (h' := hh) (ch := []) (fun b hb => absurd hb (by simp)) (fun b ob _ _ _ q _ => z3 b ob q) (fun b ob _ _ _ q _ => ⟨ob.slots, z3 b ob q⟩) (fun _ _ _ _ n => n) (fun b ob _ q => ⟨ob, z3 b ob q⟩)
    (fun _ _ q => q) (fun _ _ _ q => q) (fun b ps q => ⟨#[], by rw [q]; simp⟩) (fun m hm => hm.keeps z3) (I.hok.kept z3) z2

/-- the turns of a generator, with the consumer's state c: fin what is wanted at the end, out what is wanted of an item that is handed out -/
def Turns {γ : Type} (J : It) (g : TG) (tt : TT) (te : TE) (σw : L2.St) (vs : List Nat) (W : γ → Nat → Nat → Hp → Prop) (fin : γ → Hp → Prop) (out : γ → V → Hp → (γ → Hp → Prop) → Prop) : Prop := ∀ c i m H, W c i m H →
  (J.stop i H ∧ fin c H) ∨ (J.go i H ∧ ∃ Nx : γ → Hp → Prop, (∀ c' H', Nx c' H' → ∃ m', m' < m ∧ W c' (i + 1) m' H') ∧ ∀ x H', J.yld i H x H' → g x σw H' fun σ2 H2 => wipe σ2 vs = σw ∧ tt σ2 H2 fun b H3 =>
    if b = true then te σ2 H3 fun y H4 => out c y H4 Nx else Nx c H3)
/-- the item is a truth; b: the one at which one goes on -/
def outB (b : Bool) (Q : VK) : Unit → V → Hp → (Unit → Hp → Prop) → Prop := fun _ y H4 k => ∃ c, y = .bl c ∧ if c = b then k () H4 else Q (.bl (!b)) H4
/-- the items go into a list -/
def outL : List V → V → Hp → (List V → Hp → Prop) → Prop := fun ys y H4 k => ys.length < sizeLine ∧ k (ys ++ [y]) H4
def Mono {γ : Type} (out : γ → V → Hp → (γ → Hp → Prop) → Prop) : Prop := ∀ c y H k k', (∀ c', k c' H → k' c' H) → out c y H k → out c y H k'
theorem mono_B {b : Bool} {Q : VK} : Mono (outB b Q) := fun _ y H k k' hk h => by
  obtain ⟨c, e, q⟩ := h
  refine ⟨c, e, ?_⟩
  by_cases hcb : c = b
  · rw [if_pos hcb] at q ⊢
    exact hk () q
  · rw [if_neg hcb] at q ⊢
    exact q
theorem mono_L : Mono outL := fun _ y H k k' hk h => ⟨h.1, hk _ h.2⟩

def endG {γ : Type} (XG : Cx) (pn : List (Addr × Obj)) (σw : L2.St) (C : γ → List (Addr × Obj) → Prop) (fin : γ → Hp → Prop) : GenEnd := fun _ _ r s1 => r = .ok .next ∧ ∃ c cp H', C c cp ∧ Inv XG (pn ++ cp) σw H' s1 ∧ fin c H'
def yldG {γ : Type} (XG : Cx) (pn : List (Addr × Obj)) (σw : L2.St) (fp : List Addr) (C : γ → List (Addr × Obj) → Prop) (out : γ → V → Hp → (γ → Hp → Prop) → Prop) : Protocol := fun _ _ v s1 kap =>
  ∃ c cp y H', C c cp ∧ RelV y v ∧ Inv XG (pn ++ cp) σw H' s1 ∧ out c y H' fun c' _ => ∀ s' cp', C c' cp' → Inv XG (pn ++ cp') σw H' s' → (∀ q ∈ fp, ∀ o, s1.heap.get? q = some o → s'.heap.get? q = some o) → kap (.send .none) s'

theorem seg_gx {γ : Type} {B : Around} {s4 : Shared} {H4 : Hp} {cenv : Env} {fp : List Addr} {pn : List (Addr × Obj)} {elt tg iter : Expr} {ifs : List Expr} {scope : Scope} {pos : Pos} {it : Addr} {tn : Nat → Heap → Prop} {J : It} {g : TG} {tt : TT} {te : TE} {vs : List Nat}
    {W : γ → Nat → Nat → Hp → Prop} {fin : γ → Hp → Prop} {out : γ → V → Hp → (γ → Hp → Prop) → Prop} {C : γ → List (Addr × Obj) → Prop} {σw : L2.St} (hc : X.calm = true) (hco : cenv.scope.isCoroutine = false) (hpn : ∀ p ∈ pn, ∀ q ∈ fp, p.1 ≠ q) (hcp : ∀ c cp, C c cp → ∀ p ∈ cp, ∀ q ∈ fp, p.1 ≠ q) (hmo : Mono out) (T : Turn X.prog X.w X.K tg J fp it tn)
    (pg : PG (gcx X B s4 H4 cenv fp) tg g) (pt : PTs (gcx X B s4 H4 cenv fp) ifs tt) (pe : PE (gcx X B s4 H4 cenv fp) elt te) (turn : Turns J g tt te σw vs W fin out) :
    ∀ (m n : Nat) (c : γ) (cp : List (Addr × Obj)) (i : Nat) (H : Hp) (s0 s : Shared), m < n → C c cp → Inv (gcx X B s4 H4 cenv fp) (pn ++ cp) σw H s → tn i s.heap → (∀ q ∈ fp, H q = none) → W c i m H →
      Seg (model X.prog X.w) B (endG (gcx X B s4 H4 cenv fp) pn σw C fin) (yldG (gcx X B s4 H4 cenv fp) pn σw fp C out) n s0
        (.compLoop (.GeneratorExp elt [⟨tg, iter, ifs, 0⟩] scope pos) 0 (.ref it) .none cenv)
        ((model X.prog X.w).den (.compLoop (.GeneratorExp elt [⟨tg, iter, ifs, 0⟩] scope pos) 0 (.ref it) .none cenv)) [] s := by
  intro m
  induction m using Nat.strongRecOn with
  | ind m ih =>
    intro n c cp i H s0 s hmn hC I st nf w
    have apart : ∀ p ∈ pn ++ cp, ∀ q ∈ fp, p.1 ≠ q := fun p hp => (List.mem_append.mp hp).elim (hpn p) (hcp c cp hC p)
    have stat : ∀ {σ' : L2.St} {H' : Hp} {s' : Shared}, Inv (gcx X B s4 H4 cenv fp) (pn ++ cp) σ' H' s' → (∀ q ∈ fp, H' q = none) → ∀ q ∈ fp, FpOk (gcx X B s4 H4 cenv fp) (pn ++ cp) H' q := fun {σ' H' s'} I' hn q hq =>
      ⟨hn q hq, (I'.ok.exf q hq).1, I'.ok.exfs q hq, .inl hq, fun x c e => (I'.ok.exf q hq).2 x c e, fun p hp => apart p hp q hq⟩
    show Seg _ B _ _ _ s0 _ ((compTurn (.GeneratorExp elt [⟨tg, iter, ifs, 0⟩] scope pos) 0 (.ref it) .none cenv).onRaise (leaving cenv)) [] s
    rw [compTurn_gen, Sem.onRaise_eq_wrap]
    refine seg_bind_wrap (wpAny_standAt ?_)
    rcases turn c i m H w with ⟨stop, qq⟩ | ⟨go, Nx, hNx, step⟩
    · refine seg_bind_wrap ?_
      rw [over_comp]
      refine thnF (T.done (gcx X B s4 H4 cenv fp) rfl rfl rfl hc i _ s σw H (fun _ _ => False) I (stat I nf) st stop) fun r s6 ⟨hr, I6⟩ => ?_
      subst hr
      exact seg_end (.ok .next) ⟨rfl, c, cp, H, hC, I6, qq⟩
    · refine seg_bind_wrap ?_
      rw [over_comp]
      refine thnF (T.item (gcx X B s4 H4 cenv fp) rfl rfl rfl hc i _ s σw H (fun _ _ => False) I (stat I nf) st go) fun r s6 ⟨u, hr, h6⟩ => ?_
      subst hr
      refine seg_bind_wrap ?_
      rw [over_comp]
      refine thnF h6 fun _ s7 ⟨x, H7, I7, r7, y7, st7, n7⟩ => ?_
      have I7' := I7.pinned (stat I7 n7) (T.obj _ _ st7)
      refine seg_bind_wrap ?_
      rw [over_comp]
      have put := pg.run _ s7 _ H7 x u _ I7' r7 (step x H7 y7)
      refine thnF put fun _ s8 ⟨σ8, H8, I8, hw8, q8⟩ => ?_
      refine seg_bind_wrap ?_
      rw [over_comp]
      refine thnF (pt.run _ s8 σ8 H8 _ I8 q8) fun k s9 ⟨H9, I9, q9⟩ => ?_
      have pin' : ∀ {H' : Hp} {s' : Shared} {σ' : L2.St}, Inv (gcx X B s4 H4 cenv fp) ((pn ++ cp) ++ pinsAt fp s7.heap) σ' H' s' → ∀ q ∈ fp, ∀ o, s7.heap.get? q = some o → s'.heap.get? q = some o ∧ H' q = none := fun {H' s' σ'} I' q hq o e =>
        let z := I'.pin (q, o) (List.mem_append_right _ (List.mem_append_right _ (mem_pinsAt hq e)))
        ⟨z.1, z.2.1⟩
      have back : ∀ {s' : Shared} {H' : Hp}, Inv (gcx X B s4 H4 cenv fp) ((pn ++ cp) ++ pinsAt fp s7.heap) σ8 H' s' → Inv (gcx X B s4 H4 cenv fp) (pn ++ cp) σw H' s' ∧ tn (i + 1) s'.heap ∧ ∀ q ∈ fp, H' q = none := fun {s' H'} I' => by
        have hl : σw.length = σ8.length := by rw [← hw8, wipe_length]
        refine ⟨(I'.unpinned (pins := pn ++ cp)).weak hl (fun j v e => ?_), T.keep _ _ _ st7 fun q hq o e => (pin' I' q hq o e).1, fun q hq => ?_⟩
        · rw [← hw8] at e
          exact (wipe_some e).1
        · obtain ⟨o, e, _⟩ := T.obj _ _ st7 q hq
          exact (pin' I' q hq o e).2
      cases k with
      | false =>
        simp only [Bool.false_eq_true, if_false] at q9 ⊢
        obtain ⟨m', hm, w'⟩ := hNx _ _ q9
        obtain ⟨b1, b2, b3⟩ := back I9
        exact seg_again rfl (ih m' hm n c cp (i + 1) H9 s0 s9 (by omega) hC b1 b2 b3 w')
      | true =>
        simp only [if_true] at q9 ⊢
        have out : yieldOut cenv = yieldValue := funext fun v => by
          unfold yieldOut
          rw [hco]
          rfl
        simp only [out]
        simp only [Sem.bind_eq_wrap', Sem.wrap_wrap]
        refine seg_wrap ?_
        rw [over_comp]
        refine thnF (pe.run _ s9 σ8 H9 _ I9 q9) fun z s10 ⟨yv, H10, I10, r10, qq⟩ => ?_
        obtain ⟨b1, b2, b3⟩ := back I10
        have hn1 : ∃ n', n = n' + 1 := ⟨n - 1, by omega⟩
        obtain ⟨n', rfl⟩ := hn1
        refine seg_at (seg_yield rfl rfl rfl ⟨c, cp, yv, H10, hC, r10, b1, hmo _ _ _ _ _ (fun c' nx => ?_) qq⟩)
        obtain ⟨m', hm, w'⟩ := hNx _ _ nx
        intro s'' cp' hC' I'' kept
        exact seg_again rfl (ih m' hm n' c' cp' (i + 1) H10 s'' s'' (by omega) hC' I'' (T.keep _ _ _ b2 kept) b3 w')

theorem seg_start {B : Around} {R : GenEnd} {Y : Protocol} {n : Nat} {elt tg iter : Expr} {ifs : List Expr} {scope : Scope} {pos : Pos} {J : It} {fp : List Addr} {it : Addr} {tn : Nat → Heap → Prop} {cenv : Env} {s0 : Shared} (T : Turn X.prog X.w X.K tg J fp it tn) (st : tn 0 s.heap)
    (loop : Seg (model X.prog X.w) B R Y n s0 (.compLoop (.GeneratorExp elt [⟨tg, iter, ifs, 0⟩] scope pos) 0 (.ref it) .none cenv) ((model X.prog X.w).den (.compLoop (.GeneratorExp elt [⟨tg, iter, ifs, 0⟩] scope pos) 0 (.ref it) .none cenv)) [] s) :
    Seg (model X.prog X.w) B R Y n s0 (.compStart (.GeneratorExp elt [⟨tg, iter, ifs, 0⟩] scope pos) 0 (.ref it) .none cenv) ((model X.prog X.w).den (.compStart (.GeneratorExp elt [⟨tg, iter, ifs, 0⟩] scope pos) 0 (.ref it) .none cenv)) [] s := by
  show Seg _ B _ _ _ s0 _ ((compStart (.GeneratorExp elt [⟨tg, iter, ifs, 0⟩] scope pos) 0 (.ref it) .none cenv).onRaise (leaving cenv)) [] s
  unfold compStart
  rw [Sem.onRaise_eq_wrap]
  show Seg _ B _ _ _ s0 _ ((ask >>= _).wrap _ _ _ _) [] s
  refine seg_bind_wrap (wpAny_askSetting ?_)
  split
  · exact seg_again rfl loop
  · first
      | exact seg_bind_wrap (wpAny_rule (seg_bind_wrap (wpAny_standAt (seg_bind_wrap (T.self _ 0 s _ _ st (seg_again rfl loop))))))
      | (refine seg_bind_wrap (wpAny_rule ?_); show Seg _ B _ _ _ s0 _ ((standAt iter.pos >>= _).wrap _ _ _ _) [] s; exact seg_bind_wrap (wpAny_standAt (seg_bind_wrap (T.self _ 0 s _ _ st (seg_again rfl loop)))))

/-- the generator at u, not begun; R what is known of what it walks -/
structure Here (X : Cx) (pins : List (Addr × Obj)) (σ : L2.St) (B : Around) (elt tg iter : Expr) (ifs : List Expr) (scope : Scope) (pos : Pos) (vs : List Nat) (g : TG) (tt : TT) (te : TE) (J : It) (s3 : Shared) (H3 : Hp) (cenv : Env) (fp : List Addr) (it a : Addr) (gn : Nat) (gobj : Obj) (tn : Nat → Heap → Prop) (s4 : Shared) : Prop where
  inv : Inv X pins σ H3 s3
  turn : Turn X.prog X.w X.K tg J fp it tn
  st : tn 0 s4.heap
  fps : ∀ b ∈ fp, FpOk X pins H3 b ∧ b < s3.heap.objs.size
  big : s3.heap.objs.size < a
  gen : Inv (gcx X B s3 H3 cenv fp) [(a, gobj)] (wipe σ vs) H3 s4
  pg : PG (gcx X B s3 H3 cenv fp) tg g
  pt : PTs (gcx X B s3 H3 cenv fp) ifs tt
  pe : PE (gcx X B s3 H3 cenv fp) elt te
  co : cenv.scope.isCoroutine = false
  fresh : s4.gens[gn]? = some (.fresh (.compStart (.GeneratorExp elt [⟨tg, iter, ifs, 0⟩] scope pos) 0 (.ref it) .none cenv))
  is : ∀ h : Heap, h.get? a = some gobj → h.IsGen a gn

/-- what a generator expression asks: wi what is walked; behind it the def's table may have grown -/
def tGx (P : Addr) (wi : TI) (R : It → Hp → Prop) : L2.St → Hp → Prop := fun σ H => wi σ H fun J H1 => GxR.TabG H1 P ∧ ∀ H2, GxR.Tabbed P H1 H2 → R J H2

theorem gx_make {c P : Addr} {elt tg iter : Expr} {ifs : List Expr} {gpos : Pos} {scope : Scope} {own : List (Str × Nat)} {wi : TI} {g : TG} {tt : TT} {te : TE} {k : Nat} {B : Around} {R : It → Hp → Prop} {Qg : Value → Shared → Prop}
    (hr : Room k X.A) (hB : B.frames = some X.stack) (hBh : B.handled = none) (hN : X.N.Nodup) (TB : GxR.TabB X.base X.mg c P) (hcode : X.env.code = .ref c) (ok : BlkOk X.N X.env.scope scope own) (hco : scope.isCoroutine = false)
    (hcell : ∀ y ∈ scope.names, y.2 ≠ .cell) (hdot : scope.names.lookup (".0" : Str) = some NameKind.local) (hi : PI X tg iter wi)
    (hpg : ∀ (s : Shared) (H : Hp) (C : Addr) (code : Value) (fp : List Addr), PG (gcx X B s H (genEnv scope (cloFrom X.env.cells scope.names []) C code builtinsNs X.env) fp) tg g)
    (hpt : ∀ (s : Shared) (H : Hp) (C : Addr) (code : Value) (fp : List Addr), PTs (gcx X B s H (genEnv scope (cloFrom X.env.cells scope.names []) C code builtinsNs X.env) fp) ifs tt)
    (hpe : ∀ (s : Shared) (H : Hp) (C : Addr) (code : Value) (fp : List Addr), PE (gcx X B s H (genEnv scope (cloFrom X.env.cells scope.names []) C code builtinsNs X.env) fp) elt te)
    (hs : ∀ v, genFold iter X.env v = pure v) (I : Inv X pins σ H s) (h : tGx P wi R σ H)
    (hQ : ∀ J s3 H3 cenv fp it a gn gobj tn s4, Here X pins σ B elt tg iter ifs scope gpos (own.map (·.2)) g tt te J s3 H3 cenv fp it a gn gobj tn s4 → R J H3 → Qg (.ref a) s4) :
    wpAny (model X.prog X.w) X.A (eval (.GeneratorExp elt [⟨tg, iter, ifs, 0⟩] scope gpos) X.env) Qg X.xe s := by
  have caught : ∀ q ∈ scope.names, q.2 = .free → ∃ d, X.env.cells.lookup q.1 = some d := fun q hq fr => (ok.free q hq fr).elim (fun u => I.ok.has _ (.inl u)) (fun u => I.ok.has _ (.inr u))
  refine wpAny_GeneratorExp_make hco (closure_ok caught) hcell hdot ok.kind hr.depth ?_ hs
  refine thn (hi.run pins s σ H _ I h) fun xv s1 h1 => thn h1 fun itv s2 h2 => ?_
  obtain ⟨it, fp, tn, J, H2, e, I2, T, st2, f2, ⟨ps, hP, ht⟩, q⟩ := h2
  subst e
  refine ⟨I2.nolimit, ?_⟩
  have hPs : s2.heap.get? P = some { cls := .none, data := .fields ps } := I2.hok P _ hP
  have cd : PySem.W.CodeHd s2.heap c P := TB.code.keeps I2.bk
  have fpP : ∀ b ∈ fp, b ≠ P := fun b hb z => by
    have := (f2 b hb).1
    rw [z, hP] at this
    cases this
  have fplt : ∀ b ∈ fp, b < s2.heap.objs.size := fun b hb => (T.obj _ _ st2 b hb).elim fun o both => Heap.lt_size both.1
  have cont : ∀ (code : Value) (h3 : Heap) (tk : Nat) (ps' : Array Value), Heap.ExtBut P s2.heap h3 → s2.heap.objs.size ≤ h3.objs.size → h3.get? P = some { cls := .none, data := .fields ps' } → (∃ more, ps' = ps ++ more) → TriplesOk ps'.toList →
      wpAny (model X.prog X.w) X.A (builtinsFor X.env.globals X.env.builtins) (fun bi s₄ => /- the frame -/
        ∀ h', h'.Ns s₄.heap.objs.size (fun y => if y = ".0" then some (.ref it) else none) → Heap.SameBut s₄.heap.objs.size (s₄.heap.push { cls := .type "frame", data := .dict #[] }) h' →
          Qg (.ref h'.objs.size) { s₄ with
            gens := s₄.gens.push (.fresh (.compStart (.GeneratorExp elt [⟨tg, iter, ifs, 0⟩] scope gpos) 0 (.ref it) .none (genEnv scope (cloFrom X.env.cells scope.names []) s₄.heap.objs.size code bi X.env))),
            toks := s₄.toks + 1 + 1 + 1,
            heap := h'.push { cls := .type "generator", data := .fields #[.int s₄.gens.size 0, .str "<genexpr>" (s₄.toks + 1), .str (X.env.qual ++ "<genexpr>") (s₄.toks + 1 + 1)] } }) X.xe { s2 with heap := h3, toks := tk } := by
    intro code h3 tk ps' hx hsz hP3 grew ht3
    obtain ⟨bm, ob, e1, e2, e3, e4, e5, e6, e7, e8⟩ := TB.bm
    obtain ⟨more, em⟩ := grew
    refine wpAny_builtinsFor (m := X.mg) (by rw [I2.ok.glob]; exact (I2.mod.glob.keeps I2.bk).extBut hx TB.gP) e1 e2 (hx _ _ e4 (I2.bk _ _ e5)) e6 e7 e8 ?_
    intro h' hn' hs'
    have J3 := GxR.inv_tab (more := more) (h' := h3) (g' := s2.gens) (d' := s2.drawn) (t' := tk) I2 hP (fun b u hb e => hx b u hb e) (by rw [← em]; exact hP3) I2.bare
    have hT3 : GxR.Tabbed P H2 (upd H2 P (.tbl (ps ++ more))) := ⟨⟨ps ++ more, upd_same, by rw [← em]; exact ht3⟩, fun b hb => upd_ne hb⟩
    have rJ := q _ hT3
    generalize hH3 : upd H2 P (.tbl (ps ++ more)) = H3 at J3 rJ hT3
    generalize hs3 : ({ s2 with heap := h3, toks := tk } : Shared) = s3
    have hs3' : ({ s2 with heap := h3, gens := s2.gens, drawn := s2.drawn, toks := tk } : Shared) = s3 := hs3
    rw [hs3'] at J3
    have h3e : s3.heap = h3 := by rw [← hs3]
    have f3 : ∀ b ∈ fp, FpOk X pins H3 b ∧ b < s3.heap.objs.size := fun b hb => by
      refine ⟨⟨?_, (f2 b hb).2⟩, by rw [h3e]; exact Nat.lt_of_lt_of_le (fplt b hb) hsz⟩
      rw [hT3.2 b (fpP b hb)]
      exact (f2 b hb).1
    have st3 : tn 0 s3.heap := T.keep _ _ _ st2 fun b hb o e => by rw [h3e]; exact hx b o (fpP b hb) e
    have hn' : h'.Ns s3.heap.objs.size (fun y => if y = ".0" then some (.ref it) else none) := by rw [h3e]; exact hn'
    have hs' : Heap.SameBut s3.heap.objs.size (s3.heap.push { cls := .type "frame", data := .dict #[] }) h' := by rw [h3e]; exact hs'
    have sz' : h'.objs.size = s3.heap.objs.size + 1 := by rw [hs'.1, Heap.size_push]
    generalize hgo : ({ cls := .type "generator", data := .fields #[.int s3.gens.size 0, .str "<genexpr>" (s3.toks + 1), .str (X.env.qual ++ "<genexpr>") (s3.toks + 1 + 1)] } : Obj) = gobj
    have hgobj : ∀ h : Heap, h.get? h'.objs.size = some gobj → h.IsGen h'.objs.size s3.gens.size := fun h e => by
      rw [← hgo] at e
      exact ⟨_, _, _, e, rfl, rfl, rfl⟩
    have B3 : AllBare (s3.gens.push (.fresh (.compStart (.GeneratorExp elt [⟨tg, iter, ifs, 0⟩] scope gpos) 0 (.ref it) .none (genEnv scope (cloFrom X.env.cells scope.names []) s3.heap.objs.size code builtinsNs X.env)))) := J3.bare.push rfl
    have I4 := gx_start (code := code) (B := B) (tk := s3.toks + 1 + 1 + 1) J3 ok hN hcell f3 hB hBh hn' hs' (gobj := gobj) (fun v z => by rw [← hgo] at z; cases z) (by rw [← hgo]; rfl) B3
    refine hQ J s3 H3 _ fp it _ s3.gens.size gobj tn _ ⟨J3, T, ?_, f3, by rw [sz']; exact Nat.lt_succ_self _, I4, hpg s3 H3 _ code fp, hpt s3 H3 _ code fp, hpe s3 H3 _ code fp, hco, Array.getElem?_push_size .., hgobj⟩ rJ
    exact T.keep _ _ _ st3 fun b _ o e => Heap.get?_push_of_some _ (hs'.extBut b o (Nat.ne_of_lt (Heap.lt_size e)) (Heap.get?_push_of_some _ e))
  cases hf : codeAmong gpos ps.toList with
  | none =>
    refine wpAny_genexprCodeX hcode (cd.code hPs ht) (cd.tab hPs) hf fun c' h' tk hx hge hlt hco' _ htab' _ => ?_
    obtain ⟨o1, vs, f1, tf, fl, tg', inF, tx, tt', op, _, _, _, _, _, _, _, _, _, htr, _⟩ := hco'
    have bigger := Nat.le_trans hge (Nat.le_of_lt hlt)
    exact cont _ h' tk _ hx bigger htab'.2 ⟨_, rfl⟩ htr
  | some cv =>
    refine wpAny_genexprCode_hit hcode (cd.code hPs ht) hf ?_
    exact cont cv s2.heap s2.toks ps (Heap.ExtBut.refl _ _) (Nat.le_refl _) hPs ⟨#[], by simp⟩ ht

/-- back in the maker's context -/
theorem Here.back {B : Around} {elt tg iter : Expr} {ifs : List Expr} {scope : Scope} {pos : Pos} {vs : List Nat} {g : TG} {tt : TT} {te : TE} {J : It} {s3 : Shared} {H3 H' : Hp} {cenv : Env} {fp : List Addr} {it a : Addr} {gn : Nat} {gobj : Obj} {tn : Nat → Heap → Prop} {s4 s' : Shared} {pl : List (Addr × Obj)} {σ' : L2.St}
    (M : Here X pins σ B elt tg iter ifs scope pos vs g tt te J s3 H3 cenv fp it a gn gobj tn s4) (I' : Inv (gcx X B s3 H3 cenv fp) pl σ' H' s') : Inv X pins σ H' s' :=
  M.inv.call' (ch := fp) I'.os I'.base I'.hok I'.bare fun b hb => ⟨(M.fps b hb).1.2.2.2.1, (M.fps b hb).1.2.1, (M.fps b hb).1.2.2.2.2.1, (M.fps b hb).1.2.2.2.2.2⟩
/-- it goes, for any consumer -/
theorem Here.goes {γ : Type} {B : Around} {elt tg iter : Expr} {ifs : List Expr} {scope : Scope} {pos : Pos} {vs : List Nat} {g : TG} {tt : TT} {te : TE} {J : It} {s3 : Shared} {H3 : Hp} {cenv : Env} {fp : List Addr} {it a : Addr} {gn : Nat} {gobj : Obj} {tn : Nat → Heap → Prop} {s4 s5 : Shared}
    {W : γ → Nat → Nat → Hp → Prop} {fin : γ → Hp → Prop} {out : γ → V → Hp → (γ → Hp → Prop) → Prop} {C : γ → List (Addr × Obj) → Prop} {c : γ} {cp : List (Addr × Obj)} {m : Nat}
    (M : Here X pins σ B elt tg iter ifs scope pos vs g tt te J s3 H3 cenv fp it a gn gobj tn s4) (hc : X.calm = true) (hcp : ∀ c cp, C c cp → ∀ p ∈ cp, ∀ q ∈ fp, p.1 ≠ q) (hmo : Mono out) (turn : Turns J g tt te (wipe σ vs) vs W fin out)
    (hC : C c cp) (w : W c 0 m H3) (I5 : Inv (gcx X B s3 H3 cenv fp) ([(a, gobj)] ++ cp) (wipe σ vs) H3 s5) (kept : ∀ b ∈ fp, ∀ o, s4.heap.get? b = some o → s5.heap.get? b = some o) :
    (GenState.fresh (.compStart (.GeneratorExp elt [⟨tg, iter, ifs, 0⟩] scope pos) 0 (.ref it) .none cenv)).Goes (model X.prog X.w) B (endG (gcx X B s3 H3 cenv fp) [(a, gobj)] (wipe σ vs) C fin) (yldG (gcx X B s3 H3 cenv fp) [(a, gobj)] (wipe σ vs) fp C out) (m + 1) (.send .none) s5 := by
  have st5 : tn 0 s5.heap := M.turn.keep _ _ _ M.st kept
  refine ⟨rfl, seg_start (X := X) M.turn st5 (seg_gx hc M.co (fun p hp q hq z => ?_) hcp hmo M.turn M.pg M.pt M.pe turn m (m + 1) c cp 0 H3 _ _ (Nat.lt_succ_self _) hC I5 st5 (fun q hq => (M.fps q hq).1.1) w)⟩
  rw [List.mem_singleton] at hp
  rw [hp] at z
  have h1 := (M.fps q hq).2
  have h2 := M.big
  have z : a = q := z
  rw [z] at h2
  exact absurd (Nat.lt_trans h1 h2) (Nat.lt_irrefl _)
/-! ### all, any -/
def CU : Unit → List (Addr × Obj) → Prop := fun _ cp => cp = []
/-- what the two loops share: b goes on, the other truth ends it -/
theorem bool_drain {XG : Cx} {pn : List (Addr × Obj)} {σw : L2.St} {fp : List Addr} {A : Around} {Q : VK} {a : Addr} {gn : Nat} {R : Result → Shared → Prop} (b : Bool) (id : String) (hh : A.handled = none) (hd : A.depth < recursionLimit) (hpin : ∃ o, (a, o) ∈ pn ∧ ∀ h : Heap, h.get? a = some o → h.IsGen a gn)
    (step : ∀ (s : Shared), wpAny (model XG.prog XG.w) A.in1 (pyNext (.ref a)) (fun v s1 => match v with
      | none => R (.ok (.ret (.bool b))) s1
      | some u => ∃ c, u = .bool c ∧ if c = b then codeAny (model XG.prog XG.w) A (.builtin id ⟨[.ref a], []⟩) R s1 else R (.ok (.ret (.bool (!b)))) s1) (fun _ _ => False) s → codeAny (model XG.prog XG.w) A (.builtin id ⟨[.ref a], []⟩) R s)
    (hend : ∀ c H' s1 s', Inv XG pn σw H' s1 → Slp s1 s' → Q (.bl c) H' → R (.ok (.ret (.bool c))) s') :
    ∀ (n : Nat) (s : Shared), s.heap.IsGen a gn → s.heap.NoLimit → (∃ gs, s.gens[gn]? = some gs ∧ gs.Goes (model XG.prog XG.w) A.in1.in1 (endG XG pn σw CU (fun _ => Q (.bl b))) (yldG XG pn σw fp CU (outB b Q)) n (.send .none) (s.setGen gn .running)) →
      codeAny (model XG.prog XG.w) A (.builtin id ⟨[.ref a], []⟩) R s := by
  obtain ⟨o, ho, isGen⟩ := hpin
  intro n
  induction n with
  | zero =>
    intro s hg hl ⟨gs, hgs, hgo⟩
    refine step s (wpAny_pyNext_genexpQ (A := A.in1) (P := fun _ _ s₁ => ∃ c cp H', CU c cp ∧ Inv XG (pn ++ cp) σw H' s₁ ∧ Q (.bl b) H') hh hl hd hg hgs hgo (fun v s₁ gs' bare hv => ?_) (fun s₁ hp h' hk => ?_))
    · obtain ⟨_, cp, y, H', rfl, rv, I', c, rfl, q⟩ := hv
      rw [List.append_nil] at I'
      refine ⟨c, rv, ?_⟩
      by_cases hcb : c = b
      · rw [if_pos hcb] at q
        exact False.elim (q s₁ [] rfl (by rw [List.append_nil]; exact I') fun _ _ _ e => e)
      · rw [if_neg hcb] at q ⊢
        exact hend (!b) H' s₁ _ I' ⟨rfl, allBare_setGen I'.bare bare, fun _ _ e => e⟩ q
    · obtain ⟨_, cp, H', rfl, I', q⟩ := hp
      rw [List.append_nil] at I'
      exact hend b H' s₁ _ I' ⟨rfl, allBare_setGen I'.bare rfl, hk⟩ q
  | succ n ih =>
    intro s hg hl ⟨gs, hgs, hgo⟩
    have hgl : gn < s.gens.size := (Array.getElem?_eq_some_iff.mp hgs).1
    refine step s (wpAny_gsz (n := gn + 1) hgl (wpAny_pyNext_genexpQ (A := A.in1) (P := fun _ _ s₁ => ∃ c cp H', CU c cp ∧ Inv XG (pn ++ cp) σw H' s₁ ∧ Q (.bl b) H') hh hl hd hg hgs hgo (fun v s₁ gs' bare hv => ?_) (fun s₁ hp h' hk => ?_)))
    · intro hsz
      obtain ⟨_, cp, y, H', rfl, rv, I', c, rfl, q⟩ := hv
      rw [List.append_nil] at I'
      refine ⟨c, rv, ?_⟩
      by_cases hcb : c = b
      · rw [if_pos hcb] at q ⊢
        have inRange : gn < s₁.gens.size := by
          have e1 : (s₁.setGen gn gs').gens.size = s₁.gens.size := setGen_size _ _ _
          have e2 : gn + 1 ≤ (s₁.setGen gn gs').gens.size := hsz
          omega
        have z : Slp s₁ ((s₁.setGen gn gs').setGen gn .running) := ⟨rfl, allBare_setGen (s := s₁.setGen gn gs') (allBare_setGen I'.bare bare) rfl, fun _ _ e => e⟩
        exact ih (s₁.setGen gn gs') (isGen _ (I'.pin (a, o) (List.mem_append_right _ ho)).1) I'.nolimit ⟨gs', setGen_at inRange, q _ [] rfl (by rw [List.append_nil]; exact inv_slept I' z) fun _ _ _ e => e⟩
      · rw [if_neg hcb] at q ⊢
        exact hend (!b) H' s₁ _ I' ⟨rfl, allBare_setGen I'.bare bare, fun _ _ e => e⟩ q
    · intro _
      obtain ⟨_, cp, H', rfl, I', q⟩ := hp
      rw [List.append_nil] at I'
      exact hend b H' s₁ _ I' ⟨rfl, allBare_setGen I'.bare rfl, hk⟩ q
theorem all_step {P : Program} {w : World} {A : Around} {a : Addr} {R : Result → Shared → Prop} {s : Shared} (h : wpAny (model P w) A.in1 (pyNext (.ref a)) (fun v s1 => match v with
      | none => R (.ok (.ret (.bool true))) s1
      | some u => ∃ c, u = .bool c ∧ if c = true then codeAny (model P w) A (.builtin "all.loop" ⟨[.ref a], []⟩) R s1 else R (.ok (.ret (.bool (!true)))) s1) (fun _ _ => False) s) : codeAny (model P w) A (.builtin "all.loop" ⟨[.ref a], []⟩) R s := by
  refine codeAny_builtin F.entry_all_loop (Around.under_plainId F.plain_all_loop _ ▸ ?_)
  refine wpAny_bind (m := pyNext (.ref a)) (wpAny_mono h (fun v s1 hv => ?_) fun _ _ no => no.elim)
  cases v with
  | none => exact wpAny_bind (wpAny_rule (wpAny_pure hv))
  | some u =>
    obtain ⟨c, rfl, q⟩ := hv
    refine wpAny_bind (wpAny_holding (wpAny_truthy_bool (wpAny_bind (wpAny_letGo ?_))))
    cases c with
    | true => exact wpAny_pure ⟨plainId_quiet F.plain_all_loop _, q⟩
    | false => exact wpAny_bind (wpAny_rule (wpAny_pure q))
theorem any_step {P : Program} {w : World} {A : Around} {a : Addr} {R : Result → Shared → Prop} {s : Shared} (h : wpAny (model P w) A.in1 (pyNext (.ref a)) (fun v s1 => match v with
      | none => R (.ok (.ret (.bool false))) s1
      | some u => ∃ c, u = .bool c ∧ if c = false then codeAny (model P w) A (.builtin "any.loop" ⟨[.ref a], []⟩) R s1 else R (.ok (.ret (.bool (!false)))) s1) (fun _ _ => False) s) : codeAny (model P w) A (.builtin "any.loop" ⟨[.ref a], []⟩) R s := by
  refine codeAny_builtin F.entry_any_loop (Around.under_plainId F.plain_any_loop _ ▸ ?_)
  refine wpAny_bind (m := pyNext (.ref a)) (wpAny_mono h (fun v s1 hv => ?_) fun _ _ no => no.elim)
  cases v with
  | none => exact wpAny_bind (wpAny_rule (wpAny_pure hv))
  | some u =>
    obtain ⟨c, rfl, q⟩ := hv
    refine wpAny_bind (wpAny_holding (wpAny_truthy_bool (wpAny_bind (wpAny_letGo ?_))))
    cases c with
    | true => exact wpAny_bind (wpAny_rule (wpAny_pure q))
    | false => exact wpAny_pure ⟨plainId_quiet F.plain_any_loop _, q⟩
/-- all(elt for tg in iter if ..) (b = true), any(..) (b = false): behind it the def's table may have grown -/
def tAA (b : Bool) (P : Addr) (wi : TI) (g : TG) (tt : TT) (te : TE) (vs : List Nat) : TE := fun σ H Q => tGx P wi (fun J H2 => ∃ W : Unit → Nat → Nat → Hp → Prop, (∃ m, W () 0 m H2) ∧ Turns J g tt te (wipe σ vs) vs W (fun _ => Q (.bl b)) (outB b Q)) σ H
abbrev tAllG := tAA true
abbrev tAnyG := tAA false
section
variable {c P : Addr} {elt tg iter : Expr} {ifs : List Expr} {p pos gpos : Pos} {scope : Scope} {own : List (Str × Nat)} {wi : TI} {g : TG} {tt : TT} {te : TE} {k : Nat}
theorem pe_AA (b : Bool) (nm : Str) (id idl : String) (hb : bootBuiltins nm = some (.builtin id)) (run : ∀ (u : Value) (s : Shared) (Q : Value → Shared → Prop) (E : Value → Shared → Prop), wpAny (model X.prog X.w) X.A.in1 (pyIter u) (fun it s2 => codeAny (model X.prog X.w) X.A (.builtin idl ⟨[it], []⟩) (fun r s' => match r with | .ok (.ret v) => Q v s' | .ok _ => False | .error e => E e s') s2) E s → wpAny (model X.prog X.w) X.A (call (.builtin id) [u]) Q E s)
    (step : ∀ (a : Addr) (R : Result → Shared → Prop) (s : Shared), wpAny (model X.prog X.w) X.A.in1 (pyNext (.ref a)) (fun v s1 => match v with
      | none => R (.ok (.ret (.bool b))) s1
      | some u => ∃ c, u = .bool c ∧ if c = b then codeAny (model X.prog X.w) X.A (.builtin idl ⟨[.ref a], []⟩) R s1 else R (.ok (.ret (.bool (!b)))) s1) (fun _ _ => False) s → codeAny (model X.prog X.w) X.A (.builtin idl ⟨[.ref a], []⟩) R s)
    (hr : Room (k + 1) X.A) (hc : X.calm = true) (hN : X.N.Nodup) (hg : Gl X nm) (hm : X.mg nm = none) (TB : GxR.TabB X.base X.mg c P) (hcode : X.env.code = .ref c) (ok : BlkOk X.N X.env.scope scope own) (hco : scope.isCoroutine = false)
    (hcell : ∀ y ∈ scope.names, y.2 ≠ .cell) (hdot : scope.names.lookup (".0" : Str) = some NameKind.local) (hi : PI X tg iter wi)
    (hpg : ∀ (s : Shared) (H : Hp) (C : Addr) (code : Value) (fp : List Addr), PG (gcx X X.A.in1.in1 s H (genEnv scope (cloFrom X.env.cells scope.names []) C code builtinsNs X.env) fp) tg g)
    (hpt : ∀ (s : Shared) (H : Hp) (C : Addr) (code : Value) (fp : List Addr), Room k (gcx X X.A.in1.in1 s H (genEnv scope (cloFrom X.env.cells scope.names []) C code builtinsNs X.env) fp).A → PTs (gcx X X.A.in1.in1 s H (genEnv scope (cloFrom X.env.cells scope.names []) C code builtinsNs X.env) fp) ifs tt)
    (hpe : ∀ (s : Shared) (H : Hp) (C : Addr) (code : Value) (fp : List Addr), Room k (gcx X X.A.in1.in1 s H (genEnv scope (cloFrom X.env.cells scope.names []) C code builtinsNs X.env) fp).A → PE (gcx X X.A.in1.in1 s H (genEnv scope (cloFrom X.env.cells scope.names []) C code builtinsNs X.env) fp) elt te)
    (hs : ∀ v, genFold iter X.env v = pure v) (hnm : nm ≠ "__name__") (hdb : (nm == ("__debug__" : Str)) = false)
    (he : starEach [.GeneratorExp elt [⟨tg, iter, ifs, 0⟩] scope gpos] X.env = (false, eval (.GeneratorExp elt [⟨tg, iter, ifs, 0⟩] scope gpos) X.env) :: starEach [] X.env) :
    PE X (.Call (.Name nm p) [.GeneratorExp elt [⟨tg, iter, ifs, 0⟩] scope gpos] [] pos) (tAA b P wi g tt te (own.map (·.2))) := by
  constructor
  intro pins s σ H Q I h
  refine wpAny_Call_Name_kw (ld_blt I hg hm hb (PyProof.Rows.callWith_builtin1 ?_ he (by rfl)) hnm hdb)
  rw [he]
  show wpAny _ _ (spliced ((false, eval (.GeneratorExp elt [⟨tg, iter, ifs, 0⟩] scope gpos) X.env) :: backTo pos (starEach [] X.env))) _ _ s
  refine Calls.spliced_cons (gx_make (B := X.A.in1.in1) hr I.ok.frames hr.hd hN TB hcode ok hco hcell hdot hi hpg (fun s H C code fp => hpt s H C code fp (room_gx hr _)) (fun s H C code fp => hpe s H C code fp (room_gx hr _)) hs I h fun J s3 H3 cenv fp it a gn gobj tn s4 M ⟨W, ⟨m0, w0⟩, turn⟩ => Calls.spliced_nil ?_)
  have hIG : s4.heap.IsGen a gn := M.is _ (M.gen.pin (a, gobj) (by simp)).1
  have z : Slp s4 (s4.setGen gn .running) := ⟨rfl, allBare_setGen M.gen.bare rfl, fun _ _ e => e⟩
  refine run _ _ _ _ (wpAny_pyIter_gen hIG (bool_drain (XG := gcx X X.A.in1.in1 s3 H3 cenv fp) (pn := [(a, gobj)]) (fp := fp) (σw := wipe σ (own.map (·.2))) (A := X.A) (Q := Q) b idl hr.hd hr.depth ⟨gobj, by simp, M.is⟩ (fun s h => step a _ s h) (fun c H' s1 s' I' z' q => ?_) (m0 + 1) s4 hIG M.gen.nolimit
    ⟨_, M.fresh, M.goes (C := CU) (c := ()) (cp := []) hc (fun _ cp hC p hp => by rw [hC] at hp; cases hp) mono_B turn rfl w0 (by rw [List.append_nil]; exact inv_slept M.gen z) fun _ _ _ e => e⟩))
  exact ⟨.bl c, H', M.back (inv_slept I' z'), rfl, q⟩
theorem run_all {A : Around} {P : Program} {w : World} (u : Value) (s : Shared) (Q : Value → Shared → Prop) (E : Value → Shared → Prop) (h : wpAny (model P w) A.in1 (pyIter u) (fun it s2 => codeAny (model P w) A (.builtin "all.loop" ⟨[it], []⟩) (fun r s' => match r with | .ok (.ret v) => Q v s' | .ok _ => False | .error e => E e s') s2) E s) : wpAny (model P w) A (call (.builtin "all") [u]) Q E s := by
  refine call_function_tree F.kind_all F.plain_all F.entry_all (F.args_all1 u) ?_
  unfold Builtin.«all»
  refine wpAny_bind (m := oneArg "all" _) (wpAny_pure (wpAny_bind (wpAny_mono h (fun it s2 h2 => ?_) fun _ _ e => e)))
  exact wpAny_pure ⟨plainId_quiet F.plain_all_loop _, h2⟩
theorem run_any {A : Around} {P : Program} {w : World} (u : Value) (s : Shared) (Q : Value → Shared → Prop) (E : Value → Shared → Prop) (h : wpAny (model P w) A.in1 (pyIter u) (fun it s2 => codeAny (model P w) A (.builtin "any.loop" ⟨[it], []⟩) (fun r s' => match r with | .ok (.ret v) => Q v s' | .ok _ => False | .error e => E e s') s2) E s) : wpAny (model P w) A (call (.builtin "any") [u]) Q E s := by
  refine call_function_tree F.kind_any F.plain_any F.entry_any (F.args_any1 u) ?_
  unfold Builtin.«any»
  refine wpAny_bind (m := oneArg "any" _) (wpAny_pure (wpAny_bind (wpAny_mono h (fun it s2 h2 => ?_) fun _ _ e => e)))
  exact wpAny_pure ⟨plainId_quiet F.plain_any_loop _, h2⟩
theorem pe_allG (hr : Room (k + 1) X.A) (hc : X.calm = true) (hN : X.N.Nodup) (hg : Gl X "all") (hm : X.mg "all" = none) (TB : GxR.TabB X.base X.mg c P) (hcode : X.env.code = .ref c) (ok : BlkOk X.N X.env.scope scope own) (hco : scope.isCoroutine = false)
    (hcell : ∀ y ∈ scope.names, y.2 ≠ .cell) (hdot : scope.names.lookup (".0" : Str) = some NameKind.local) (hi : PI X tg iter wi)
    (hpg : ∀ (s : Shared) (H : Hp) (C : Addr) (code : Value) (fp : List Addr), PG (gcx X X.A.in1.in1 s H (genEnv scope (cloFrom X.env.cells scope.names []) C code builtinsNs X.env) fp) tg g)
    (hpt : ∀ (s : Shared) (H : Hp) (C : Addr) (code : Value) (fp : List Addr), Room k (gcx X X.A.in1.in1 s H (genEnv scope (cloFrom X.env.cells scope.names []) C code builtinsNs X.env) fp).A → PTs (gcx X X.A.in1.in1 s H (genEnv scope (cloFrom X.env.cells scope.names []) C code builtinsNs X.env) fp) ifs tt)
    (hpe : ∀ (s : Shared) (H : Hp) (C : Addr) (code : Value) (fp : List Addr), Room k (gcx X X.A.in1.in1 s H (genEnv scope (cloFrom X.env.cells scope.names []) C code builtinsNs X.env) fp).A → PE (gcx X X.A.in1.in1 s H (genEnv scope (cloFrom X.env.cells scope.names []) C code builtinsNs X.env) fp) elt te)
    (hs : ∀ v, genFold iter X.env v = pure v := by intro _; rfl)
    (he : starEach [.GeneratorExp elt [⟨tg, iter, ifs, 0⟩] scope gpos] X.env = (false, eval (.GeneratorExp elt [⟨tg, iter, ifs, 0⟩] scope gpos) X.env) :: starEach [] X.env := by rfl) :
    PE X (.Call (.Name "all" p) [.GeneratorExp elt [⟨tg, iter, ifs, 0⟩] scope gpos] [] pos) (tAllG P wi g tt te (own.map (·.2))) :=
  pe_AA true "all" "all" "all.loop" (by decide +kernel) run_all (fun a R s h => all_step h) hr hc hN hg hm TB hcode ok hco hcell hdot hi hpg hpt hpe hs (by decide) (by decide) he
theorem pe_anyG (hr : Room (k + 1) X.A) (hc : X.calm = true) (hN : X.N.Nodup) (hg : Gl X "any") (hm : X.mg "any" = none) (TB : GxR.TabB X.base X.mg c P) (hcode : X.env.code = .ref c) (ok : BlkOk X.N X.env.scope scope own) (hco : scope.isCoroutine = false)
    (hcell : ∀ y ∈ scope.names, y.2 ≠ .cell) (hdot : scope.names.lookup (".0" : Str) = some NameKind.local) (hi : PI X tg iter wi)
    (hpg : ∀ (s : Shared) (H : Hp) (C : Addr) (code : Value) (fp : List Addr), PG (gcx X X.A.in1.in1 s H (genEnv scope (cloFrom X.env.cells scope.names []) C code builtinsNs X.env) fp) tg g)
    (hpt : ∀ (s : Shared) (H : Hp) (C : Addr) (code : Value) (fp : List Addr), Room k (gcx X X.A.in1.in1 s H (genEnv scope (cloFrom X.env.cells scope.names []) C code builtinsNs X.env) fp).A → PTs (gcx X X.A.in1.in1 s H (genEnv scope (cloFrom X.env.cells scope.names []) C code builtinsNs X.env) fp) ifs tt)
    (hpe : ∀ (s : Shared) (H : Hp) (C : Addr) (code : Value) (fp : List Addr), Room k (gcx X X.A.in1.in1 s H (genEnv scope (cloFrom X.env.cells scope.names []) C code builtinsNs X.env) fp).A → PE (gcx X X.A.in1.in1 s H (genEnv scope (cloFrom X.env.cells scope.names []) C code builtinsNs X.env) fp) elt te)
    (hs : ∀ v, genFold iter X.env v = pure v := by intro _; rfl)
    (he : starEach [.GeneratorExp elt [⟨tg, iter, ifs, 0⟩] scope gpos] X.env = (false, eval (.GeneratorExp elt [⟨tg, iter, ifs, 0⟩] scope gpos) X.env) :: starEach [] X.env := by rfl) :
    PE X (.Call (.Name "any" p) [.GeneratorExp elt [⟨tg, iter, ifs, 0⟩] scope gpos] [] pos) (tAnyG P wi g tt te (own.map (·.2))) :=
  pe_AA false "any" "any" "any.loop" (by decide +kernel) run_any (fun a R s h => any_step h) hr hc hN hg hm TB hcode ok hco hcell hdot hi hpg hpt hpe hs (by decide) (by decide) he
end
end
end GX

namespace GX
open PySem PySem.Spec PyProof.Rows L2
section
variable {X : Cx}
/-- repr(truth) -/
theorem call_repr_bl : CallR X (.builtin "repr") (fun xs H Q => ∃ b, xs = [.bl b] ∧ Q (.str (if b then "True" else "False")) H) := by
  intro pins s σ H xs us Q I r h
  obtain ⟨b, rfl, q⟩ := h
  obtain ⟨u, rfl, r1⟩ := vals1 r
  cases r1
  exact PySem.P.repr_of_bool ⟨.str _, H, I.tok _, ⟨_, rfl⟩, q⟩
end
section
variable {prog : Program} {w : World} {A : Around} {E : Value → Shared → Prop} {s : Shared}
theorem rev_pick (xs : Array Value) : ((List.range xs.size).filterMap fun (k : Nat) => xs[((((xs.size : Int) - 1) + (k : Int) * (-1)).toNat)]?).toArray = xs.toList.reverse.toArray := by
  have e : (List.range xs.size).filterMap (fun (k : Nat) => xs[((((xs.size : Int) - 1) + (k : Int) * (-1)).toNat)]?) = ((List.range xs.size).map fun k => xs.size - 1 - k).filterMap (xs[·]?) := by
    rw [List.filterMap_map]
    have cg : ∀ (l : List Nat), (∀ k ∈ l, k < xs.size) → l.filterMap (fun (k : Nat) => xs[((((xs.size : Int) - 1) + (k : Int) * (-1)).toNat)]?) = l.filterMap ((xs[·]?) ∘ fun k => xs.size - 1 - k) := by
      intro l
      induction l with
      | nil => intro _; rfl
      | cons k r ih =>
        intro hl
        have h0 := hl k (List.mem_cons_self ..)
        have ih' := ih fun j hj => hl j (List.mem_cons_of_mem _ hj)
        have e0 : xs[((((xs.size : Int) - 1) + (k : Int) * (-1)).toNat)]? = ((xs[·]?) ∘ fun k => xs.size - 1 - k) k := by
          show xs[((((xs.size : Int) - 1) + (k : Int) * (-1)).toNat)]? = xs[xs.size - 1 - k]?
          rw [show (((xs.size : Int) - 1) + (k : Int) * (-1)).toNat = xs.size - 1 - k by omega]
        rw [List.filterMap_cons, List.filterMap_cons, e0, ih']
    exact cg _ fun k hk => List.mem_range.mp hk
  rw [e, PySem.W.krv_range, List.filterMap_reverse, PySem.W.krv_all]
theorem sliceApplied_rev {sl : Addr} {n : Nat} {t : Tok} {Q : Int × Int × Nat → Shared → Prop} (hs : s.heap.IsSliceOf sl .none .none (.int (-1) t))
    (h : Q (((n : Int) - 1), -1, n) s) : wpAny (model prog w) A (Builtin.Slice.sliceApplied (.ref sl) (pure (n : Int))) Q E s := by
  obtain ⟨os, hos, hcs, hds⟩ := id hs
  unfold Builtin.Slice.sliceApplied Builtin.Slice.sliceFields
  refine wpAny_bind (wpAny_bind (wpAny_field hos hds (x := .none) rfl (wpAny_bind (wpAny_field hos hds (x := .none) rfl (wpAny_bind (wpAny_field hos hds (x := .int (-1) t) rfl (wpAny_pure ?_)))))))
  refine wpAny_bind (slicePart_int ?_)
  show wpAny _ _ (if ((-1 : Int) == 0) = true then _ else _) _ _ s
  rw [if_neg (by decide)]
  refine wpAny_bind (slicePart_none (wpAny_bind (slicePart_none (wpAny_bind (wpAny_pure ?_)))))
  show wpAny _ _ (match Builtin.Slice.sliceAdjust none none (-1) (n : Int) with | (lo, hi) => pure (lo, (-1 : Int), Builtin.Slice.slicePlaces lo hi (-1))) _ _ s
  have e1 : Builtin.Slice.sliceAdjust none none (-1) (n : Int) = ((n : Int) - 1, -1) := by
    unfold Builtin.Slice.sliceAdjust
    simp
  have e2 : Builtin.Slice.slicePlaces ((n : Int) - 1) (-1) (-1) = n := by
    unfold Builtin.Slice.slicePlaces
    simp only [show ¬ ((-1 : Int) > 0) by decide, if_false]
    split <;> simp <;> omega
  rw [e1]
  show wpAny _ _ (pure ((n : Int) - 1, (-1 : Int), Builtin.Slice.slicePlaces ((n : Int) - 1) (-1) (-1))) _ _ s
  rw [e2]
  exact wpAny_pure h
theorem getItem_tuple_rev {t sl : Addr} {items : Array Value} {u : Tok} {Q : Value → Shared → Prop} (tup : IsTup s.heap t items) (cut : s.heap.IsSliceOf sl .none .none (.int (-1) u)) (few : items.size ≤ sizeLine)
    (h : Q (.ref s.heap.objs.size) { s with heap := s.heap.push { cls := .type "tuple", data := .seq items.toList.reverse.toArray } }) : wpAny (model prog w) A (getItem (.ref t) (.ref sl)) Q E s := by
  have fits : sizeOk (.seq items.toList.reverse.toArray) := by
    show items.toList.reverse.toArray.size ≤ sizeLine
    simpa using few
  have kind : s.TypeIs (.ref sl) "slice" := cut.imp fun _ both => ⟨both.1, both.2.1⟩
  unfold getItem
  repeat' first | with_reducible refine wpAny_holding ?_ | with_reducible refine wpAny_bind (wpAny_pure ?_)
  refine wpAny_bind (wpAny_sequenceKey tup.typeIs (by decide) (wpAny_bind (wpAny_callSpecial?_slot (name := Str.ofString "__getitem__") tup.typeIs PyProof.Rows.slot_tuple_getitem (wpAny_call_entry PyProof.Rows.slot_tuple_getitem tup.typeIs entry_tuple_getitem ?_ (args_tuple_getitem _ _)))))
  refine wpAny_bind (m := Builtin.Tuple.tupleItemsOf (.ref t)) (tupleItemsOf_ tup (wpAny_bind (wpAny_typeOf kind ?_)))
  rw [if_pos (by decide)]
  refine wpAny_bind (sliceApplied_rev cut ?_)
  show wpAny _ _ (if (((items.size : Int) - 1) == 0 && (-1 : Int) == 1 && items.size == items.size) = true then _ else _) _ _ s
  rw [if_neg (by rw [Bool.and_eq_true, Bool.and_eq_true]; intro z; exact absurd z.1.2 (by decide)), rev_pick]
  have last := fun v => wpAny_pure (M := model prog w) (A := A) (E := E) (Q := Q) (a := v) (s := { s with heap := s.heap.push { cls := .type "tuple", data := .seq items.toList.reverse.toArray } })
  first
    | exact wpAny_bind (m := Builtin.Tuple.tupleExact _) (wpAny_newObj_type (wpAny_pure ⟨_, rfl, last _ h⟩) fits)
    | exact wpAny_bind (m := Builtin.Tuple.tupleExact _) (wpAny_newObj_type (wpAny_bind (wpAny_pure (wpAny_pure ⟨_, rfl, last _ h⟩))) fits)
    | exact wpAny_bind (wpAny_bind (m := Builtin.Tuple.tupleExact _) (wpAny_newObj_type (wpAny_pure (wpAny_pure ⟨_, rfl, last _ h⟩)) fits))
    | exact wpAny_bind (wpAny_bind (m := Builtin.Tuple.tupleExact _) (wpAny_newObj_type (wpAny_pure ⟨_, rfl, last _ h⟩) fits))
end
section
variable {X : Cx}
theorem valsRev : ∀ {xs : List V} {us : List Value}, Vals xs us → Vals xs.reverse us.reverse
  | _, _, .nil => .nil
  | _, _, .cons r t => by
    simp only [List.reverse_cons]
    exact (valsRev t).append (.cons r .nil)
/-- t[::-1] of a tuple -/
def tRevT (K : PySem.W.Frag) (te : TE) : TE := fun σ H Q => te σ H fun x H1 => ∃ a xs, x = .ref a ∧ SqT K H1 a xs ∧ ∀ p, H1 p = none → Q (.ref p) (upd H1 p (.tup xs.reverse))
theorem pe_revT {e : Expr} {te : TE} {k : Nat} {p1 p2 p3 pos : Pos} (he : PE X e te) : PE X (.Subscript e (.Slice none none (some (.UnaryOp .USub (.Constant (.int 1) k p1) p2)) p3) pos) (tRevT X.K te) := by
  constructor
  intro pins s0 σ G Q J want
  have minus : PO X (some (.UnaryOp .USub (.Constant (.int 1) k p1) p2)) (tPart (tUn (rU fun i => .int (-i)) (tC (.int 1)))) := po_some (pe_un un_neg pe_int)
  have blank := fun (z : Shared) (F : Hp) (JF : Inv X pins σ F z) => po_none.run pins z σ F (fun part F' => part = none ∧ F' = F) JF ⟨rfl, rfl⟩
  refine Subscript_ (thn (he.run pins s0 σ G _ J want) fun obj z1 ⟨ov, F1, J1, rel, a, xs, isA, tup, done⟩ => ?_)
  subst isA
  obtain rfl : obj = Value.ref a := rel
  refine wpAny_Slice (thn (blank z1 F1 J1) fun lo z2 ⟨_, F2, J2, isLo, eLo, eF2⟩ => thn (blank z2 F2 J2) fun hi z3 ⟨_, F3, J3, isHi, eHi, eF3⟩ => ?_)
  subst eLo eF2 eHi eF3
  refine thn (minus.run pins z3 σ F3 (fun part F' => part = some (-1) ∧ F' = F3) J3 ⟨1, rfl, -1, rfl, rfl, rfl⟩) fun st z4 ⟨_, F4, J4, isSt, eSt, eF4⟩ => ?_
  subst eSt eF4
  cases isLo
  cases isHi
  obtain ⟨tk, rfl⟩ : ∃ tk, st = .int (-1) tk := by
    cases isSt
    exact ⟨_, rfl⟩
  have J5 : Inv X pins σ F4 { z4 with heap := z4.heap.push { cls := .type "slice", data := .fields #[.none, .none, .int (-1) tk] } } := J4.kept (t' := z4.toks) fun _ _ at_b => Heap.get?_push_of_some _ at_b
  obtain ⟨its, vals, isTup, few⟩ := J5.tuple tup
  show wpAny (model X.prog X.w) X.A (subscriptTail e (.Slice none none (some (.UnaryOp .USub (.Constant (.int 1) k p1) p2)) p3) (.ref a) (.ref z4.heap.objs.size)) (EP X pins σ Q) X.xe { z4 with heap := z4.heap.push { cls := .type "slice", data := .fields #[.none, .none, .int (-1) tk] } }
  refine tail_any (ops := [.ref a, .ref z4.heap.objs.size]) isTup.typeIs (PyProof.Rows.slot_tuple_getitem.lookup) (getItem_tuple_rev isTup (Heap.IsSliceOf.new _ _ _ _) ?few ?_) (by with_unfolding_all rfl)
  case few =>
    have n := vals.length
    rw [List.size_toArray, ← n]
    exact few
  refine ⟨.ref _, _, J5.laid (t' := z4.toks) (o := .tup xs.reverse) (fun _ _ at_b => Heap.get?_push_of_some _ at_b) (Nat.le_refl _) ⟨by rw [List.length_reverse]; exact few, its.reverse, valsRev vals, _, Heap.get?_push_size _ rfl, rfl, _, rfl⟩, rfl, done _ (J5.hok.fresh (Nat.le_refl _))⟩
end
/-! ### xs == [] -/
section
variable {X : Cx}
def rEqNil (K : PySem.W.Frag) : R2 := fun x y H Q => ∃ a b xs, x = .ref a ∧ y = .ref b ∧ SqL K H a xs ∧ SqL K H b [] ∧ Q (.bl xs.isEmpty) H
theorem op_eqNil (hu : X.A.units < cLine) : OpR X (compareOp .Eq) (rEqNil X.K) := by
  intro pins s σ H x y v u Q I rx ry h
  obtain ⟨a, b, xs, rfl, rfl, ha, hb, q⟩ := h
  cases rx
  cases ry
  obtain ⟨its, r1, p1, _⟩ := I.list ha
  obtain ⟨its2, r2, p2, _⟩ := I.list hb
  cases r2
  cases r1 with
  | nil => exact SeqAt.eq_listAt (e := fun _ => true) p1.isList p2.isList rfl hu (fun j h1 h2 => absurd h1 (by simp)) ⟨.bl true, H, I, rfl, q⟩
  | cons r t => exact SeqAt.eq_list_lengthsAt p1.isList p2.isList (by simp) hu ⟨.bl false, H, I, rfl, q⟩
end
/-! ### a def, its code object known -/
section
variable {P : Program} {w : World} {K : PySem.W.Frag} {mg : Str → Option Value} {base : Heap} {x qual : Str} {params : Arguments} {body : List Stmt} {scope : Scope} {dvs : List V} {kws : List (Str × V)} {f : Addr} {fd : FuncData}
theorem okC {CX : CXT} {N ps : List Str} {k : Nat} {sp : Sp} {c : Addr} (F : FunD K x qual params body scope dvs kws f fd) (hc : fd.code = .ref c) (S : FnScope N ps scope) (len : ∀ vs H Q E, sp vs H Q E → vs.length = ps.length)
    (hbody : ∀ (A : Around) (outer : List Env) (s : Shared) (H : Hp) (vs : List V) (Q : VK) (E : XK), Room k (A.deeper (envOfC qual scope s.heap.objs.size f (.ref c))) → sp vs H Q E →
      ∃ t, PSs (cxOf CX P w K mg base N qual scope f (.ref c) A outer s H E) body t ∧ t { nx := fun _ H' => Q .non H', rt := Q } (start N vs) H) : FnOk P w K mg base CX (k + 1) f fd ps sp := by
  obtain ⟨oc, od, dV, kV, doc, pm, an, cdv, ct, osl, rfl, lk, hcd, _, _⟩ := F.ex
  have e : cdv = .ref c := hc
  subst e
  exact fn_of lk hcd S len fun A outer s H vs Q E hr hsp => hbody A outer s H vs Q E hr hsp
theorem code_of {p : Str × Option Str} (F : FunD K x qual params body scope dvs kws (He.fAd K p) fd) : fd.code = .ref (He.cT K p).1 := by
  obtain ⟨oc, od, dV, kV, doc, pm, an, cdv, ct, osl, rfl, lk, hcd, _, _⟩ := F.ex
  obtain ⟨c, e⟩ := He.codeIn_ref hcd
  subst e
  show Value.ref c = _
  rw [show (He.cT K p).1 = c from He.codeOf_eq lk rfl]
end
end GX

namespace GX
open PySem PySem.Spec PyProof.Rows L2 GenW
section
variable {X : Cx} {pins : List (Addr × Obj)}
variable {σ : L2.St} {H : Hp} {s : Shared}
/-! ### tuple(..) -/
/-- the consumer's list at S holds what came so far -/
def CL (S : Addr) : List V → List (Addr × Obj) → Prop := fun ys cp => ∃ acc c, cp = [(S, lstObj acc c)] ∧ Vals ys acc.toList
/-- the consumer has put one more into its list -/
theorem inv_pushed {XG : Cx} {pn : List (Addr × Obj)} {σw : L2.St} {S : Addr} {o o' : Obj} {s s' : Shared} (I : Inv XG (pn ++ [(S, o)]) σw H s) (young : XG.s_0.heap.objs.size ≤ S) (no : ∀ p ∈ XG.pn ++ pn, p.1 ≠ S) (os : s'.os = s.os) (bare : AllBare s'.gens)
    (keep : ∀ b u, b ≠ S → s.heap.get? b = some u → s'.heap.get? b = some u) (now : s'.heap.get? S = some o') (plain : ∀ v, o'.data ≠ .cell v) : Inv XG (pn ++ [(S, o')]) σw H s' := by
  obtain ⟨atS, freeS, notL, notF, notC⟩ := I.pin (S, o) (by simp)
  have I0 : Inv XG pn σw H s := I.pins_of fun p hp => I.pin p (List.mem_append_right _ (List.mem_append_left _ hp))
  have other : ∀ b u, H b = some u → b ≠ S := fun b u h z => by
    rw [z] at h
    rw [show H S = none from freeS] at h
    cases h
  obtain ⟨hh, g, d, t, oo⟩ := s'
  have eo : oo = s.os := os
  subst eo
  have out : ∀ b, b ∉ [S] → b ≠ S := fun b hb z => hb (by rw [z]; exact List.mem_singleton.mpr rfl)
  have I1 : Inv XG pn σw H { s with heap := hh, gens := g, drawn := d, toks := t } := by
    refine I0.step (g' := g) (t' := t) (d' := d) (ch := [S]) (fun b hb => ?_) (fun b u _ _ hb at_b _ => keep b u (out b hb) at_b) (fun b u _ _ hb at_b _ => ⟨u.slots, keep b u (out b hb) at_b⟩) (fun _ _ _ _ n => n) (fun b u hb at_b => ⟨u, keep b u (out b hb) at_b⟩)
      (fun _ _ h => h) (fun _ _ _ h => h) (fun b ps h => ⟨#[], by rw [h]; simp⟩) (fun m ns => ns.at' fun u at_b => keep _ u (Ne.symm notL) at_b) (fun b u h => ?_) bare
    · rw [List.mem_singleton.mp hb]
      refine ⟨.inr young, notL, fun x c at_x z => ?_, no⟩
      obtain ⟨v, oc, at_c, is_c⟩ := I.cell x c at_x
      rw [z, show s.heap.get? S = some o from atS] at at_c
      cases at_c
      exact notC v is_c
    · refine (I0.hok b u h).stay (fun e v he at_e => keep e v ?_ at_e) (fun _ h => h) fun _ _ h => h
      rcases he with z | z
      · rw [z]; exact other b u h
      · exact other e _ z
  refine I1.pins_of fun p hp => ?_
  rcases List.mem_append.mp hp with m | m
  · exact I1.pin p (List.mem_append_right _ m)
  · rw [List.mem_singleton.mp m]
    exact ⟨now, freeS, notL, notF, plain⟩
theorem vals_snoc {ys : List V} {us : List Value} {y : V} {v : Value} (h : Vals ys us) (r : RelV y v) : Vals (ys ++ [y]) (us ++ [v]) := by
  induction h with
  | nil => exact .cons r .nil
  | cons a _ ih => exact .cons a ih
theorem CL.push {XG : Cx} {pn : List (Addr × Obj)} {σw : L2.St} {S : Addr} {acc : Array Value} {c gn : Nat} {ys : List V} {y : V} {v : Value} {H' : Hp} {s₁ : Shared} {gs' gs'' : GenState} (I' : Inv XG (pn ++ [(S, lstObj acc c)]) σw H' s₁) (vals : Vals ys acc.toList) (rv : RelV y v) (bare : gs'.bare = true) (bare2 : gs''.bare = true)
    (young : XG.s_0.heap.objs.size ≤ S) (no : ∀ p ∈ XG.pn ++ pn, p.1 ≠ S) : ∃ o', CL S (ys ++ [y]) [(S, o')] ∧ Inv XG (pn ++ [(S, o')]) σw H' ((({ s₁.setGen gn gs' with heap := s₁.heap.update S (Obj.mapSeq (·.push v)) } : Shared)).setGen gn gs'') := by
  have atS : s₁.heap.get? S = some (lstObj acc c) := (I'.pin (S, lstObj acc c) (by simp)).1
  refine ⟨Obj.mapSeq (·.push v) (lstObj acc c), ⟨acc.push v, _, rfl, ?_⟩, inv_pushed I' young no rfl (allBare_setGen (s := { s₁.setGen gn gs' with heap := s₁.heap.update S (Obj.mapSeq (·.push v)) }) (allBare_setGen (s := s₁) I'.bare bare) bare2) (fun b u hb e => (Heap.get?_update_other _ _ (Ne.symm hb)).trans e) (Heap.get?_update_self _ atS rfl) (fun v z => by cases z)⟩
  rw [Array.toList_push]
  exact vals_snoc vals rv
theorem list_drain {XG : Cx} {pn : List (Addr × Obj)} {σw : L2.St} {fp : List Addr} {A : Around} {fin : List V → Hp → Prop} {S a : Addr} {gn : Nat} {res : Value} {R : Result → Shared → Prop} (hh : A.handled = none) (hd : A.depth < recursionLimit) (hpin : ∃ o, (a, o) ∈ pn ∧ ∀ h : Heap, h.get? a = some o → h.IsGen a gn)
    (young : XG.s_0.heap.objs.size ≤ S) (no : ∀ p ∈ XG.pn ++ pn, p.1 ≠ S) (apart : ∀ q ∈ fp, q ≠ S)
    (hend : ∀ ys acc c H' s', Vals ys acc.toList → Inv XG (pn ++ [(S, lstObj acc c)]) σw H' s' → fin ys H' → R (.ok (.ret res)) s') :
    ∀ (n : Nat) (s : Shared), s.heap.IsGen a gn → s.heap.NoLimit → (∃ gs, s.gens[gn]? = some gs ∧ gs.Goes (model XG.prog XG.w) A.in1.in1 (endG XG pn σw (CL S) fin) (yldG XG pn σw fp (CL S) outL) n (.send .none) (s.setGen gn .running)) →
      codeAny (model XG.prog XG.w) A (.builtin "list.extend.loop" ⟨[.ref S, .ref a, res], []⟩) R s := by
  obtain ⟨o, ho, isGen⟩ := hpin
  have body : ∀ (s : Shared), wpAny (model XG.prog XG.w) A.in1 (pyNext (.ref a)) (fun v s1 => match v with
      | none => R (.ok (.ret res)) s1
      | some u => ∃ acc c, s1.heap.get? S = some (lstObj acc c) ∧ acc.size < sizeLine ∧ codeAny (model XG.prog XG.w) A (.builtin "list.extend.loop" ⟨[.ref S, .ref a, res], []⟩) R { s1 with heap := s1.heap.update S (Obj.mapSeq (·.push u)) }) (fun _ _ => False) s →
      codeAny (model XG.prog XG.w) A (.builtin "list.extend.loop" ⟨[.ref S, .ref a, res], []⟩) R s := fun s h => by
    refine codeAny_builtin F.entry_extend_loop (Around.under_plainId F.plain_extend_loop _ ▸ ?_)
    refine wpAny_bind (m := pyNext (.ref a)) (wpAny_mono h (fun v s1 hv => ?_) fun _ _ z => z.elim)
    cases v with
    | none => exact wpAny_pure hv
    | some u =>
      obtain ⟨acc, c, atS, few, more⟩ := hv
      refine wpAny_bind (m := updateSeq S (·.push u)) (wpAny_updateSeq atS rfl (wpAny_pure ⟨plainId_quiet F.plain_extend_loop _, more⟩) (Nat.le_of_lt few) ?_)
      show (acc.push u).size ≤ sizeLine + 1
      rw [Array.size_push]
      omega
  intro n
  induction n with
  | zero =>
    intro s hg hl ⟨gs, hgs, hgo⟩
    refine body s (wpAny_pyNext_genexpQ (A := A.in1) (P := fun _ _ s₁ => ∃ c cp H', CL S c cp ∧ Inv XG (pn ++ cp) σw H' s₁ ∧ fin c H') hh hl hd hg hgs hgo (fun v s₁ gs' bare hv => ?_) (fun s₁ hp h' hk => ?_))
    · obtain ⟨ys, cp, y, H', ⟨acc, c, rfl, vals⟩, rv, I', few, q⟩ := hv
      obtain ⟨o', hC, J⟩ := CL.push (gn := gn) (gs' := gs') (gs'' := gs') I' vals rv bare bare young no
      exact False.elim (q _ _ hC J fun b hb o e => (Heap.get?_update_other _ _ (Ne.symm (apart b hb))).trans e)
    · obtain ⟨ys, cp, H', ⟨acc, c, rfl, vals⟩, I', q⟩ := hp
      exact hend ys acc c H' _ vals (inv_slept I' ⟨rfl, allBare_setGen I'.bare rfl, hk⟩) q
  | succ n ih =>
    intro s hg hl ⟨gs, hgs, hgo⟩
    have hgl : gn < s.gens.size := (Array.getElem?_eq_some_iff.mp hgs).1
    refine body s (wpAny_gsz (n := gn + 1) hgl (wpAny_pyNext_genexpQ (A := A.in1) (P := fun _ _ s₁ => ∃ c cp H', CL S c cp ∧ Inv XG (pn ++ cp) σw H' s₁ ∧ fin c H') hh hl hd hg hgs hgo (fun v s₁ gs' bare hv => ?_) (fun s₁ hp h' hk => ?_)))
    · intro hsz
      obtain ⟨ys, cp, y, H', ⟨acc, c, rfl, vals⟩, rv, I', few, q⟩ := hv
      obtain ⟨o', hC, J⟩ := CL.push (gn := gn) (gs' := gs') (gs'' := .running) I' vals rv bare rfl young no
      have inRange : gn < s₁.gens.size := by
        have e1 : (s₁.setGen gn gs').gens.size = s₁.gens.size := setGen_size _ _ _
        have e2 : gn + 1 ≤ (s₁.setGen gn gs').gens.size := hsz
        omega
      refine ⟨acc, c, (I'.pin (S, lstObj acc c) (by simp)).1, ?_, ?_⟩
      · have e : acc.toList.length = ys.length := by first | exact vals.length | exact vals.length.symm
        have e' : acc.toList.length = acc.size := Array.length_toList
        omega
      · refine ih _ (isGen _ (J.pin (a, o) (List.mem_append_right _ (List.mem_append_left _ ho))).1) J.nolimit ⟨gs', setGen_at (s := s₁) inRange, q _ _ hC J fun b hb u e => (Heap.get?_update_other _ _ (Ne.symm (apart b hb))).trans e⟩
    · intro _
      obtain ⟨ys, cp, H', ⟨acc, c, rfl, vals⟩, I', q⟩ := hp
      exact hend ys acc c H' _ vals (inv_slept I' ⟨rfl, allBare_setGen I'.bare rfl, hk⟩) q
end
end GX

namespace GX
open PySem PySem.Spec PyProof.Rows L2 GenW
section
variable {X : Cx} {pins : List (Addr × Obj)}
variable {σ : L2.St} {H : Hp} {s : Shared}
/-- a young object that nobody knows is pinned -/
theorem inv_pinned {XG : Cx} {pn : List (Addr × Obj)} {σw : L2.St} {S : Addr} {o : Obj} {s s' : Shared} (I : Inv XG pn σw H s) (z : Slp s s') (big : s.heap.objs.size ≤ S) (atS : s'.heap.get? S = some o) (plain : ∀ v, o.data ≠ .cell v) : Inv XG (pn ++ [(S, o)]) σw H s' := by
  have I' := inv_slept I z
  refine I'.pins_of fun p hp => ?_
  rcases List.mem_append.mp hp with m | m
  · exact I'.pin p (List.mem_append_right _ m)
  · rw [List.mem_singleton.mp m]
    exact ⟨atS, I.hok.fresh big, fun e => Nat.lt_irrefl _ (Nat.lt_of_lt_of_le I.lt (e ▸ big)), I.nofs big, plain⟩
theorem collect_gx {A : Around} {elt tg iter : Expr} {ifs : List Expr} {scope : Scope} {pos : Pos} {vs : List Nat} {g : TG} {tt : TT} {te : TE} {J : It} {s3 : Shared} {H3 : Hp} {cenv : Env} {fp : List Addr} {it a : Addr} {gn : Nat} {gobj : Obj} {tn : Nat → Heap → Prop} {s4 : Shared}
    {W : List V → Nat → Nat → Hp → Prop} {fin : List V → Hp → Prop} {m : Nat} {Q : List Value → Shared → Prop} {E : Value → Shared → Prop} (M : Here X pins σ A.in1.in1 elt tg iter ifs scope pos vs g tt te J s3 H3 cenv fp it a gn gobj tn s4) (hh : A.handled = none) (hd : A.depth < recursionLimit) (hc : X.calm = true)
    (turn : Turns J g tt te (wipe σ vs) vs W fin outL) (w0 : W [] 0 m H3) (hQ : ∀ ys (acc : Array Value) H' s', Vals ys acc.toList → Inv X pins σ H' s' → fin ys H' → Q acc.toList s') : wpAny (model X.prog X.w) A (collect (.ref a)) Q E s4 := by
  have at_a : s4.heap.get? a = some gobj := (M.gen.pin (a, gobj) (by simp)).1
  have a_lt : a < s4.heap.objs.size := Heap.lt_size at_a
  have sA : ∀ q ∈ fp, q ≠ s4.heap.objs.size := fun q hq z => Nat.lt_irrefl _ (Nat.lt_trans (Nat.lt_trans (M.fps q hq).2 M.big) (z ▸ a_lt))
  have ty : ∀ s : Shared, s.heap.get? a = some gobj → s.TypeIs (.ref a) "generator" := fun s e => by
    obtain ⟨_, _, _, e1, e2, _⟩ := M.is _ e
    exact ⟨_, e1, e2⟩
  have still : ∀ o : Obj, (s4.heap.push o).get? a = some gobj := fun o => Heap.get?_push_of_some _ at_a
  unfold collect
  refine wpAny_bind (wpAny_runValue (codeAny_builtin F.entry_proto_collect (Around.under_plainId F.plain_proto_collect _ ▸ ?_)))
  -- the list that takes the items
  refine wpAny_bind (m := newList []) (wpAny_newObj_type (wpAny_pure ⟨plainId_quiet F.plain_list_iadd _, codeAny_builtin F.entry_list_iadd (Around.under_plainId F.plain_list_iadd _ ▸ ?_)⟩))
  generalize hS : s4.heap.objs.size = S at sA a_lt ⊢
  have aS : S ≠ a := fun z => Nat.lt_irrefl _ (z ▸ a_lt)
  change wpAny _ A.in1 (Builtin.List.listExtendWith (.ref S) (.ref a) (.ref S)) _ _ _
  unfold Builtin.List.listExtendWith
  refine wpAny_bind (wpAny_typeOf (ty _ (still _)) ?_)
  rw [if_neg (by simp [Builtin.List.listSameRef, aS])]
  refine wpAny_bind (wpAny_pyIter_gen (M.is _ (still _)) (wpAny_bind (wpAny_holding ?_)))
  unfold Builtin.List.listLengthHint
  refine wpAny_bind (wpAny_specialOf (ty _ (still _)) F.gen_no_len ?_)
  refine wpAny_bind (m := specialOf (Value.ref a) (Str.ofString "__length_hint__")) (wpAny_specialOf (ty _ (still _)) F.gen_no_hint (wpAny_pure ?_))
  change wpAny _ A.in1 (rule "list.extend.makes-room" >>= fun _ => (updateSeq S (·.push Value.none) >>= fun _ => updateSeq S (·.pop)) >>= fun _ => again (.builtin "list.extend.loop" ⟨[.ref S, .ref a, .ref S], []⟩)) _ _ _
  have l1 : (s4.heap.push { cls := .type "list", data := .seq ([] : List Value).toArray }).get? S = some { cls := .type "list", data := .seq ([] : List Value).toArray } := hS ▸ Heap.get?_push_size _ rfl
  have l2 := Heap.get?_update_self (Obj.mapSeq (·.push Value.none)) l1 rfl
  have l3 := Heap.get?_update_self (Obj.mapSeq (·.pop)) l2 rfl
  refine wpAny_bind (wpAny_rule (wpAny_bind (wpAny_bind (wpAny_updateSeq l1 rfl (wpAny_updateSeq l2 rfl (wpAny_pure ⟨plainId_quiet F.plain_extend_loop _, ?_⟩))))))
  generalize hh5 : ((s4.heap.push { cls := .type "list", data := .seq ([] : List Value).toArray }).update S (Obj.mapSeq (·.push Value.none))).update S (Obj.mapSeq (·.pop)) = h5 at l3
  have kept : ∀ b o, s4.heap.get? b = some o → h5.get? b = some o := fun b o e => by
    have nb : S ≠ b := fun z => Nat.lt_irrefl _ (z ▸ hS ▸ Heap.lt_size e)
    rw [← hh5]
    exact (Heap.get?_update_other _ _ nb).trans ((Heap.get?_update_other _ _ nb).trans (Heap.get?_push_of_some _ e))
  have sl : Slp s4 (({ s4 with heap := h5 } : Shared).setGen gn .running) := ⟨rfl, allBare_setGen (s := { s4 with heap := h5 }) M.gen.bare rfl, kept⟩
  have I5 := inv_pinned M.gen sl (Nat.le_of_eq hS) l3 (fun v z => by cases z)
  refine list_drain (XG := gcx X A.in1.in1 s3 H3 cenv fp) (pn := [(a, gobj)]) (fp := fp) (σw := wipe σ vs) (A := A) (fin := fin) (S := S) hh hd ⟨gobj, by simp, M.is⟩ ?_ (fun p hp => ?_) sA (fun ys acc c H' s' vals I' q => ?_) (m + 1) _ (M.is _ (kept _ _ at_a)) (M.gen.nolimit.keeps kept)
    ⟨_, M.fresh, M.goes (C := CL S) (c := []) (cp := [(S, _)]) hc (fun c cp hC p hp q hq z => ?_) mono_L turn ⟨_, _, rfl, .nil⟩ w0 I5 fun b _ o e => kept b o e⟩
  · exact Nat.le_of_lt (Nat.lt_trans M.big a_lt)
  · have hp' : p = (a, gobj) := by simpa using hp
    rw [hp']
    exact Ne.symm aS
  · refine wpAny_bind (m := load S) (wpAny_load (I'.pin (S, lstObj acc c) (by simp)).1 (wpAny_pure ?_))
    exact hQ ys acc H' s' vals (M.back I') q
  · obtain ⟨acc, c', e, _⟩ := hC
    rw [e, List.mem_singleton] at hp
    rw [hp] at z
    exact sA q hq z.symm
/-- tuple(elt for tg in iter if ..): W what holds with the items so far, ahead of item i, m turns left at most -/
def tTupG (P : Addr) (wi : TI) (g : TG) (tt : TT) (te : TE) (vs : List Nat) : TE := fun σ H Q => tGx P wi (fun J H2 => ∃ W : List V → Nat → Nat → Hp → Prop, (∃ m, W [] 0 m H2) ∧ Turns J g tt te (wipe σ vs) vs W (fun ys H' => ys.length ≤ sizeLine ∧ ∀ p, H' p = none → Q (.ref p) (upd H' p (.tup ys))) outL) σ H
theorem room_gt {k : Nat} {A : Around} (r : Room (k + 1) A) (env : Env) : Room k (A.in1.in1.in1.in1.deeper env) :=
  ⟨r.hd, by have := r.dp; show A.depth + 1 + 3 * k + 5 < _; omega, by have := r.un; show A.units + 1 + 1 + 1 + 1 + 3 + 16 * k + 200 < _; omega⟩
abbrev gtx (X : Cx) (scope : Scope) (s : Shared) (H : Hp) (C : Addr) (code : Value) (fp : List Addr) : Cx := gcx X X.A.in1.in1.in1.in1 s H (genEnv scope (cloFrom X.env.cells scope.names []) C code builtinsNs X.env) fp
theorem pe_tupG {c P : Addr} {elt tg iter : Expr} {ifs : List Expr} {p pos gpos : Pos} {scope : Scope} {own : List (Str × Nat)} {wi : TI} {g : TG} {tt : TT} {te : TE} {k : Nat} (hr : Room (k + 1) X.A) (hc : X.calm = true) (hN : X.N.Nodup) (hg : Gl X "tuple") (hm : X.mg "tuple" = none) (TB : GxR.TabB X.base X.mg c P) (hcode : X.env.code = .ref c) (ok : BlkOk X.N X.env.scope scope own) (hco : scope.isCoroutine = false)
    (hcell : ∀ y ∈ scope.names, y.2 ≠ .cell) (hdot : scope.names.lookup (".0" : Str) = some NameKind.local) (hi : PI X tg iter wi)
    (hpg : ∀ (s : Shared) (H : Hp) (C : Addr) (code : Value) (fp : List Addr), PG (gtx X scope s H C code fp) tg g)
    (hpt : ∀ (s : Shared) (H : Hp) (C : Addr) (code : Value) (fp : List Addr), Room k (gtx X scope s H C code fp).A → PTs (gtx X scope s H C code fp) ifs tt)
    (hpe : ∀ (s : Shared) (H : Hp) (C : Addr) (code : Value) (fp : List Addr), Room k (gtx X scope s H C code fp).A → PE (gtx X scope s H C code fp) elt te)
    (hs : ∀ v, genFold iter X.env v = pure v := by intro _; rfl)
    (he : starEach [.GeneratorExp elt [⟨tg, iter, ifs, 0⟩] scope gpos] X.env = (false, eval (.GeneratorExp elt [⟨tg, iter, ifs, 0⟩] scope gpos) X.env) :: starEach [] X.env := by rfl) :
    PE X (.Call (.Name "tuple" p) [.GeneratorExp elt [⟨tg, iter, ifs, 0⟩] scope gpos] [] pos) (tTupG P wi g tt te (own.map (·.2))) := by
  constructor
  intro pins s σ H Q I h
  refine wpAny_Call_Name_kw (ld_blt I hg hm (show bootBuiltins "tuple" = some (.type "tuple") by decide +kernel) (PyProof.Rows.callWith_type1 ?_ he (by rfl)) (by decide) (by decide))
  rw [he]
  show wpAny _ _ (spliced ((false, eval (.GeneratorExp elt [⟨tg, iter, ifs, 0⟩] scope gpos) X.env) :: backTo pos (starEach [] X.env))) _ _ s
  refine Calls.spliced_cons (gx_make (B := X.A.in1.in1.in1.in1) hr I.ok.frames hr.hd hN TB hcode ok hco hcell hdot hi hpg (fun s H C code fp => hpt s H C code fp (room_gt hr _)) (fun s H C code fp => hpe s H C code fp (room_gt hr _)) hs I h fun J s3 H3 cenv fp it a gn gobj tn s4 M ⟨W, ⟨m0, w0⟩, turn⟩ => Calls.spliced_nil ?_)
  have isG : s4.heap.IsGen a gn := M.is _ (M.gen.pin (a, gobj) (by simp)).1
  refine callType_codes (Q₁ := fun obj s₁ => s₁.TypeIs obj "tuple" ∧ EP X pins σ Q obj s₁) F.called_tuple (F.typeCall_tuple_1 _) F.entry_object_init (codeAny_of_tree ?_) fun obj s₁ h₁ => ?_
  · refine wpAny_bind (m := checkBuiltinCall "tuple.__new__" ⟨[.type "tuple", .ref a], []⟩) (wpAny_of_eq (F.newCall_tuple_1 _) (wpAny_pure ⟨plainId_quiet F.plain_tuple_new _, codeAny_builtin F.entry_tuple_new ?_⟩))
    rw [Around.under_plainId F.plain_tuple_new _]
    have tsub := sub_tuple_self
    have tinit := init_tuple_lookup
    have tmade := madeHere_tuple
    have tgen := isG.typeIs
    wp_walk using wpAny_typeOf tgen, collect_gx (A := X.A.in1.in1) M hr.hd hr.depth hc turn w0
    intro ys acc H' s' vals I' ⟨few, q⟩
    have e : acc.toList.toArray = acc := by simp
    have sz : acc.size ≤ sizeLine := by
      have e1 : acc.toList.length = ys.length := by first | exact vals.length | exact vals.length.symm
      have e2 : acc.toList.length = acc.size := Array.length_toList
      omega
    refine wpAny_bind (m := Builtin.Tuple.tupleExact acc.toList.toArray) ?_
    rw [e]
    unfold Builtin.Tuple.tupleExact
    refine wpAny_newObj_type (wpAny_pure ?_) sz
    have none_ : H' s'.heap.objs.size = none := I'.hok.fresh (Nat.le_refl _)
    refine ⟨⟨_, Heap.get?_push_size _ rfl, rfl⟩, .ref s'.heap.objs.size, upd H' s'.heap.objs.size (.tup ys), I'.laid (t' := s'.toks) (fun b u e => Heap.get?_push_of_some _ e) (Nat.le_refl _) ?_, rfl, q _ none_⟩
    exact ⟨few, acc.toList, vals, ⟨_, Heap.get?_push_size _ rfl, rfl, _, by simp <;> rfl⟩⟩
  · exact ⟨h₁.1, F.args_object_init_2 obj _, object_init_meets F.called_tuple.init.lookup F.called_tuple.made (by decide) X.prog X.w X.A.in1 _ s₁ ⟨h₁.1, rfl, h₁.2⟩⟩
end
end GX

/-! Promises of defs that run where nothing is being shown (no repr under way): what they may use of repr. -/
namespace GX
open PySem PySem.Spec PyProof.Rows L2 GenW
/-- room, and no repr under way -/
structure Calm (k : Nat) (A : Around) : Prop where
  room : Room k A
  clear : A.guards = some []
theorem Calm.mono {j k : Nat} {A : Around} (c : Calm k A) (h : j ≤ k) : Calm j A := ⟨c.room.mono h, c.clear⟩
/-- a def's promise, where it is calm -/
structure FnG (P : Program) (w : World) (K : PySem.W.Frag) (mg : Str → Option Value) (base : Heap) (k : Nat) (f : Addr) (fd : FuncData) (ps : List Str) (sp : Sp) : Prop where
  count : ∀ vs H Q E, sp vs H Q E → vs.length = ps.length
  goes : ∀ (A : Around) (stack : List Env) (s : Shared) (H : Hp) (args : Args) (us : List Value) (vs : List V) (Q : VK) (E : XK), sp vs H Q E → Calm k A → Vals vs us → BindsTo s fd args (ps.zip us) → Env0 P w K mg base A stack s H →
    codeAny (model P w) A (.call (.ref f) args) (CR CX0 stack P w H s Q E) s
section
variable {P : Program} {w : World} {K : PySem.W.Frag} {mg : Str → Option Value} {base : Heap} {k j : Nat} {f : Addr} {fd : FuncData} {ps : List Str} {sp : Sp}
theorem FnG.of (F : FnOk P w K mg base CX0 k f fd ps sp) : FnG P w K mg base k f fd ps sp := ⟨F.len, fun A stack s H args us vs Q E h c r b e => F.run A stack s H args us vs Q E c.room e b r h⟩
theorem FnG.mono (F : FnG P w K mg base j f fd ps sp) (h : j ≤ k) : FnG P w K mg base k f fd ps sp := ⟨F.count, fun A stack s H args us vs Q E q c => F.goes A stack s H args us vs Q E q (c.mono h)⟩
/-- a def of the text by its body -/
theorem okG {x qual : Str} {params : Arguments} {body : List Stmt} {scope : Scope} {dvs : List V} {kws : List (Str × V)} {N : List Str} {c : Addr} (F : FunD K x qual params body scope dvs kws f fd) (hc : fd.code = .ref c) (S : FnScope N ps scope) (count : ∀ vs H Q E, sp vs H Q E → vs.length = ps.length)
    (hbody : ∀ (A : Around) (stack : List Env) (s : Shared) (H : Hp) (vs : List V) (Q : VK) (E : XK), Calm k (cxOf CX0 P w K mg base N qual scope f (.ref c) A stack s H E).A → sp vs H Q E →
      ∃ t, PSs (cxOf CX0 P w K mg base N qual scope f (.ref c) A stack s H E) body t ∧ t { nx := fun _ H' => Q .non H', rt := Q } (start N vs) H) : FnG P w K mg base (k + 1) f fd ps sp := by
  refine ⟨count, fun A stack s H args us vs Q E want calm rel binds env => ?_⟩
  obtain ⟨oc, od, dV, kV, doc, pm, an, cdv, ct, osl, rfl, lk, hcd, _, _⟩ := F.ex
  obtain rfl : cdv = .ref c := hc
  have inK : K.In s.heap := env.mod.kin.keeps fun b o e => (env.bs b o e).1
  obtain ⟨t, runs, good⟩ := hbody A stack s H vs Q E ⟨calm.room.deeper _, calm.clear⟩ want
  refine codeAny_call_function calm.room.depth (inK _ _ lk) rfl S.co S.gen rfl (PySem.W.codeRec_of inK hcd) (binds _ _ _ _ ?_)
  refine wpAny_newFunctionEnv_cells S.kind (fun y hy => ?_) fun env' e s1 into => ?_
  · have par := S.par y.1 (List.of_mem_zip (show (y.1, y.2) ∈ _ from hy)).1
    exact par.imp id fun cell => ⟨cell, PySem.W.cellsFrom_some _ _ _ (.inl cell)⟩
  · cases e
    refine ⟨(env.mod.nolimit.keeps fun b o e => (env.bs b o e).1).keeps into.toInCall.keep, codeAny_func ?_⟩
    have J := inv_start (CX := CX0) (E := E) (qual := qual) (f := f) (cd := .ref c) S calm.room.hd env (count _ _ _ _ want) rel into
    have done : ∀ {σ' : L2.St} {H' : Hp} {s' : Shared} {v : V} {u : Value}, Inv (cxOf CX0 P w K mg base N qual scope f (.ref c) A stack s H E) [] σ' H' s' → RelV v u → Q v H' → CE stack P w H s Q u s' := fun J' r q => ⟨_, _, J'.os, J'.bare, J'.base, J'.hok, r, q⟩
    refine wpAny_mono (runs.run [] s1 _ H _ J good) (fun fl s' post => ?_) fun _ _ post => post
    cases fl with
    | brk => exact post.elim fun _ z => z.elim fun _ z => z.2.elim
    | cont => exact post.elim fun _ z => z.elim fun _ z => z.2.elim
    | next => exact post.elim fun _ z => z.elim fun _ z => done (v := .non) (u := .none) z.1 rfl z.2
    | ret u =>
      obtain ⟨v, _, _, J', r, q⟩ := post
      exact done J' r q
end
section
variable {X : Cx} {k : Nat} {f : Addr} {fd : FuncData} {ps : List Str} {sp : Sp} {dvs : List V} {ds : List Value} {x : Str} {p pos : Pos} {e : Expr} {es : List Expr} {t : TA}
/-- f(..) of a def that wants it calm -/
theorem pe_callG (F : FnG X.prog X.w X.K X.mg X.base k f fd ps sp) (calm : Calm k X.A) (hg : Gl X x) (hm : X.mg x = some (.ref f)) (hk : PySem.W.keepIn X.K (.ref f) = true) (hb : Binds X.K fd ps ds) (hd : Vals dvs ds)
    (ha : PA X (e :: es) t) (hdb : (x == ("__debug__" : Str)) = false := by decide) (he : starEach (e :: es) X.env = (false, eval e X.env) :: starEach es X.env := by rfl) (hpl : (backTo pos (starEach es X.env)).any (·.1) = false := by rfl) : PE X (.Call (.Name x p) (e :: es) [] pos) (tCall sp dvs E0 t) := by
  constructor
  intro pins s σ H Q I want
  refine wpAny_Call_Name_kw (ld_glob I hg hm (PySem.W.callWith_K (h₀ := X.base) I.ok.mod.kin hk (thn (ha.run pos pins s σ H _ I want) fun us s1 ⟨vs, H1, I1, rel, q⟩ => ⟨I1.kIn, ?_⟩) he hpl) hdb)
  have all := rel.append hd
  have num : (us ++ ds).length = ps.length := all.length ▸ F.count _ _ _ _ q
  refine wpAny_call (codeAny_mono (F.goes X.A X.stack s1 H1 ⟨us, []⟩ _ _ Q E0 q calm all (hb s1 us I1.kIn num) I1.env0) fun res s' post => ?_)
  rcases res with no | fl
  · exact False.elim post
  · cases fl with
    | ret u => exact I1.after post
    | _ => exact False.elim post
end
/-! ### repr of what lies deep -/
mutual
theorem Dp.noDict {K : PySem.W.Frag} {H : Hp} : ∀ {v : V} {d : PyData}, Dp K H v d → d.hasDict = false
  | _, _, .non => rfl
  | _, _, .bl _ => rfl
  | _, _, .int _ => rfl
  | _, _, .str _ => rfl
  | _, _, .lst _ h => Dp.noDicts h
  | _, _, .tup _ h => Dp.noDicts h
theorem Dp.noDicts {K : PySem.W.Frag} {H : Hp} : ∀ {vs : List V} {ds : List PyData}, DpAll K H vs ds → PyData.hasDictAll ds = false
  | _, _, .nil => rfl
  | _, _, .cons h t => by
    show (PyData.hasDict _ || PyData.hasDictAll _) = false
    rw [Dp.noDict h, Dp.noDicts t]
    rfl
end
def rShow (K : PySem.W.Frag) : List V → Hp → VK → Prop := fun xs H Q => ∃ a d, xs = [.ref a] ∧ Dp K H (.ref a) d ∧ d.showable = true ∧ d.depth ≤ 100 ∧ d.shown.length ≤ sizeLine ∧ Q (.str d.shown) H
theorem call_repr_deep {X : Cx} {k : Nat} (calm : Calm k X.A) : CallR X (.builtin "repr") (rShow X.K) := by
  intro pins s σ H xs us Q I rel want
  obtain ⟨a, d, rfl, deep, able, low, short, q⟩ := want
  obtain _ | ⟨r, _ | _⟩ := rel
  obtain ⟨as, reads⟩ := Dp.reads I d _ _ deep r
  cases (show _ = Value.ref a from r)
  have un := calm.room.un
  refine repr_of_reads' reads able (PyData.noDict_hsm (Dp.noDict deep)) calm.clear (by omega) (fun _ _ e => e) (fun h' u tk more => ?_) short
  exact ⟨.str d.shown, H, I.kept (t' := tk) more, ⟨_, rfl⟩, q⟩
end GX

/-! The end of a law whose promise wants it calm. -/
namespace GX
open PySem PySem.Spec PyProof.Rows L2
abbrev tabO : Obj := { cls := .none, data := .fields #[] }
abbrev scrO (vs : List Value) : Obj := { cls := .type "list", data := .seq vs.toArray }
/-- what is tracked at the beginning: the tables, and the script unless the text holds it -/
def hp0 (K : PySem.W.Frag) (T : List Addr) (a : Addr) (vs : List Value) (ns : List Int) : Hp := fun b => if b ∈ T then some (.tbl #[]) else if b = a ∧ (K.lookup a).isNone = true then some (.frz (scrO vs) (.lst (ns.map V.int))) else none
section
variable {P : Program} {w : World} {K : PySem.W.Frag} {mg mb : Str → Option Value} {a : Addr} {cs : List (Addr × Addr)} {s₁ : Shared} {vs : List Value} {ns : List Int} {T : List Addr}
theorem hp0_cases (b : Addr) : (hp0 K T a vs ns b = some (.tbl #[]) ∧ b ∈ T) ∨ (hp0 K T a vs ns b = some (.frz (scrO vs) (.lst (ns.map V.int))) ∧ b = a ∧ K.lookup a = none) ∨ (hp0 K T a vs ns b = none ∧ b ∉ T ∧ ¬ (b = a ∧ K.lookup a = none)) := by
  unfold hp0
  by_cases h : b ∈ T
  · exact .inl ⟨if_pos h, h⟩
  · by_cases h2 : b = a ∧ (K.lookup a).isNone = true
    · exact .inr (.inl ⟨(if_neg h).trans (if_pos h2), h2.1, Option.isNone_iff_eq_none.mp h2.2⟩)
    · exact .inr (.inr ⟨(if_neg h).trans (if_neg h2), h, fun z => h2 ⟨z.1, Option.isNone_iff_eq_none.mpr z.2⟩⟩)
/-- the ground on which the law is called -/
structure Begin (P : Program) (w : World) (K : PySem.W.Frag) (mg : Str → Option Value) (cs : List (Addr × Addr)) (a : Addr) (ns : List Int) (s₁ : Shared) (base : Heap) (H : Hp) : Prop where
  kin : K.In base
  glob : base.Ns mainGlobals mg
  tabs : ∀ p ∈ cs, GxR.TabB base mg p.1 p.2
  tbls : ∀ p ∈ cs, H p.2 = some (.tbl #[])
  script : SqL K H a (ns.map V.int)
  env : Env0 P w K mg base callerA [] s₁ H
  good : ∀ (u : Value) (s' : Shared), CE [] P w H s₁ (fun v _ => v = .bl true) u s' → u = .bool true ∧ OldK s₁.heap s'.heap ∧ s'.os = s₁.os ∧ AllBare s'.gens
theorem begin_of (kin : K.In s₁.heap) (glob : s₁.heap.Ns mainGlobals mg) (blt : s₁.heap.Ns builtinsNs mb) (boot : ∀ x : Str, x ≠ "__name__" → mb x = bootBuiltins x) (lim : s₁.heap.NoLimit) (gens : s₁.gens = #[])
    (tab : ∀ p ∈ cs, s₁.heap.get? p.2 = some tabO) (out : ∀ p ∈ cs, K.lookup p.2 = none) (code : ∀ p ∈ cs, PySem.W.CodeHd s₁.heap p.1 p.2)
    (bm : ∃ (bm : Addr) (ob : Obj), mg "__builtins__" = some (.ref bm) ∧ bm ≠ builtinsNs ∧ s₁.heap.get? bm = some ob ∧ ob.cls = .type "module" ∧ ob.dict = some builtinsNs ∧ ob.data = .plain)
    (at_a : s₁.heap.get? a = some (scrO vs)) (isInts : IntsAre vs ns) (few : ns.length ≤ sizeLine) : ∃ base H, Begin P w K mg cs a ns s₁ base H := by
  have T_at : ∀ b ∈ cs.map (·.2), s₁.heap.get? b = some tabO ∧ K.lookup b = none := fun b hb => by
    obtain ⟨p, hp, rfl⟩ := List.mem_map.mp hb
    exact ⟨tab p hp, out p hp⟩
  have in_T : ∀ p ∈ cs, p.2 ∈ cs.map (·.2) := fun p hp => List.mem_map.mpr ⟨p, hp, rfl⟩
  have rel := vals_ints isInts
  generalize hH : hp0 K (cs.map (·.2)) a vs ns = H
  have three : ∀ b, (H b = some (.tbl #[]) ∧ b ∈ cs.map (·.2)) ∨ (H b = some (.frz (scrO vs) (.lst (ns.map V.int))) ∧ b = a ∧ K.lookup a = none) ∨ (H b = none ∧ b ∉ cs.map (·.2) ∧ ¬ (b = a ∧ K.lookup a = none)) := hH ▸ hp0_cases
  -- what isn't tracked stands in the base
  have plain : ∀ {b : Addr} {o : Obj}, s₁.heap.get? b = some o → o ≠ tabO → o ≠ scrO vs → H b = none := fun {b o} e n1 n2 => by
    rcases three b with ⟨_, m⟩ | ⟨_, rfl, _⟩ | ⟨z, _⟩
    · exact absurd (Option.some.inj (e.symm.trans (T_at b m).1)) n1
    · exact absurd (Option.some.inj (e.symm.trans at_a)) n2
    · exact z
  have stays : ∀ {b : Addr} {o : Obj}, s₁.heap.get? b = some o → o ≠ tabO → o ≠ scrO vs → (hidT s₁.heap H).get? b = some o := fun e n1 n2 => hidT_get e (plain e n1 n2)
  have ns_ : ∀ {b : Addr} {m : Str → Option Value}, s₁.heap.Ns b m → (hidT s₁.heap H).Ns b m := fun {b m} ⟨o, es, ep, e, d, r⟩ =>
    ⟨o, es, ep, stays e (fun z => by rw [z] at d; cases d) (fun z => by rw [z] at d; cases d), d, r⟩
  have kin' : K.In (hidT s₁.heap H) := fun b o e => hidT_get (kin b o e) (by
    rcases three b with ⟨_, m⟩ | ⟨_, rfl, z⟩ | ⟨z, _⟩
    · rw [(T_at b m).2] at e; cases e
    · rw [z] at e; cases e
    · exact z)
  have notMain : ∀ {b : Addr} {o : Obj}, s₁.heap.get? b = some o → (∀ es ep, o.data ≠ .dict es ep) → b ≠ mainGlobals := fun e nd z => by
    obtain ⟨o, es, ep, e2, d, _⟩ := glob
    rw [z] at e
    cases e.symm.trans e2
    exact nd _ _ d
  have hok : HOk P w H s₁.heap := fun b u e => by
    rcases three b with ⟨z, m⟩ | ⟨z, rfl, _⟩ | ⟨z, _⟩
    · cases z.symm.trans e
      exact (T_at b m).1
    · cases z.symm.trans e
      exact ⟨at_a, by rw [List.length_map]; exact few, vs, _, rel, at_a⟩
    · cases z.symm.trans e
  have script : SqL K H a (ns.map V.int) := by
    rcases three a with ⟨_, m⟩ | ⟨z, _⟩ | ⟨_, _, z⟩
    · cases at_a.symm.trans (T_at a m).1
    · exact .inl (.inr ⟨_, z⟩)
    · cases hk : K.lookup a with
      | none => exact absurd ⟨rfl, hk⟩ z
      | some o =>
        cases (kin a o hk).symm.trans at_a
        exact .inr ⟨_, vs.toArray, _, hk, rfl, rfl, rfl, by rw [List.size_toArray, isInts.length]; exact few, by simpa using rel⟩
  refine ⟨hidT s₁.heap H, H, kin', ns_ glob, fun p hp => ⟨?_, ?_, fun z => ?_⟩, fun p hp => ?_, script, ?_, fun u s' post => ?_⟩
  · obtain ⟨o, us, file, tf, flags, tg, inF, text, tt, e, c1, d, i, rest⟩ := code p hp
    refine ⟨o, us, file, tf, flags, tg, inF, text, tt, stays e (fun z => ?_) (fun z => ?_), c1, d, i, rest⟩
    · rw [z] at c1; cases c1
    · rw [z] at d; cases d
  · obtain ⟨b, ob, e1, e2, e3, e4, e5, e6⟩ := bm
    refine ⟨b, ob, e1, e2, notMain e3 (fun es ep z => by rw [e6] at z; cases z), fun z => ?_, stays e3 (fun z => ?_) (fun z => ?_), e4, e5, e6⟩
    · rw [z, tab p hp] at e3; cases e3; cases e6
    · rw [z] at e6; cases e6
    · rw [z] at e6; cases e6
  · exact notMain (tab p hp) (fun es ep z => by cases z) z.symm
  · rcases three p.2 with ⟨z, _⟩ | ⟨_, z, _⟩ | ⟨_, z, _⟩
    · exact z
    · exact absurd ((tab p hp).symm.trans (z ▸ at_a)) (fun y => by cases y)
    · exact absurd (in_T p hp) z
  · exact ⟨rfl, ⟨kin', ns_ glob, ⟨mb, ns_ blt, boot⟩, lim.elim fun mc z => ⟨mc, ns_ z.1, z.2⟩⟩, fun b o e => of_hidT e, Nat.le_of_eq (hidT_size _ _), trivial, (fun b hb => nomatch hb), hok, .of_eq gens⟩
  · obtain ⟨v, H', os, bare, un, hok', r, q⟩ := post
    cases q
    have old : ∀ b o, s₁.heap.get? b = some o → (s'.heap.get? b = some o) ∨ (b ∈ cs.map (·.2) ∧ ∃ more, s'.heap.get? b = some { cls := .none, data := .fields more }) := fun b o e => by
      rcases three b with ⟨z, m⟩ | ⟨z, rfl, _⟩ | ⟨z, _⟩
      · obtain ⟨more, z2⟩ := un.tbls b #[] z
        exact .inr ⟨m, _, hok' b _ z2⟩
      · cases e.symm.trans at_a
        exact .inl (hok' b _ (un.frzs b _ _ z)).1
      · exact .inl (un.keep b o e z (fun y => by cases y) (fun y => by cases y))
    refine ⟨r, ⟨fun b o e => ?_, fun b o e => (old b o e).elim (fun z => ⟨_, z⟩) fun z => z.2.elim fun _ y => ⟨_, y⟩⟩, os, bare⟩
    rcases old b o e with z | ⟨m, more, z⟩
    · exact .inl z
    · obtain ⟨p, hp, rfl⟩ := List.mem_map.mp m
      cases e.symm.trans (tab p hp)
      exact .inr (.inl ⟨((code p hp).tab (tab p hp)).isCodeTable, rfl, #[], more, rfl, by rw [Array.empty_append]; exact z⟩)
end
/-- what is known of such a law at the head's heap -/
def LawG (l : PySem.W.OpenLaw) (w : World) (K : PySem.W.Frag) (k n : Nat) (x : Str) (mg : Str → Option Value) (f : Addr) (h : Heap) : Prop :=
  ∃ (fd : FuncData) (cs : List (Addr × Addr)) (sp : Sp), ((∀ p ∈ cs, h.get? p.2 = some tabO ∧ K.lookup p.2 = none ∧ PySem.W.CodeHd h p.1 p.2) ∧ ∀ (s : Shared) (u : Value), BindsTo s fd ⟨[u], []⟩ [(x, u)]) ∧
    (∀ (H : Hp) (a : Addr) (ns : List Int), ns.length ≤ n → (∀ p ∈ cs, H p.2 = some (.tbl #[])) → SqL K H a (ns.map V.int) → sp [.ref a] H (fun v _ => v = .bl true) E0) ∧
    ∀ base : Heap, (∀ p ∈ cs, GxR.TabB base mg p.1 p.2) → FnG l.prog w K mg base k f fd [x] sp
theorem walkG {l : PySem.W.OpenLaw} {n k : Nat} {q : Program} {loose : List Str} {XP : (Str → Option Value) → Heap → Prop} {YP : World → Heap → Prop} {d : DefRec} {x : Str} (most : l.most = some n) (le : n ≤ sizeLine) (nodef : d.params.defaults = []) (room : Room k callerA)
    (F : ∀ (w : World) (mg : Str → Option Value) (f : Addr) (h : Heap), YP w h → h.Ns mainGlobals mg → mg d.name = some (.ref f) → ∃ K : PySem.W.Frag, K.In h ∧ LawG l w K k n x mg f h) : PySem.W.WalkO q loose XP YP l.row.toRowW d [] (fun f vs => PySem.call f vs) := by
  refine Att.attach_callB most nodef fun w s₀ s₁ mg mb f o pm cd doc a vs ns G Y _ _ _ isF at_a isInts few _ gens => ?_
  obtain ⟨K, kin, fd, cs, sp, ⟨tabs, binds⟩, good, runs⟩ := F w mg f _ Y G.T.g isF
  obtain ⟨base, H, B⟩ := begin_of (P := l.prog) (w := w) kin G.T.g G.T.b G.T.builtins G.T.nolimit gens (fun p hp => (tabs p hp).1) (fun p hp => (tabs p hp).2.1) (fun p hp => (tabs p hp).2.2) G.T.bmain at_a isInts (Nat.le_trans few le)
  refine codeAny_mono ((runs base B.tabs).goes callerA [] s₁ H ⟨[.ref a], []⟩ [.ref a] [.ref a] _ _ (good H a ns few B.tbls B.script) ⟨room, rfl⟩ (.cons rfl .nil) (binds s₁ (.ref a)) B.env) fun r s' post => ?_
  rcases r with no | fl
  · exact False.elim post
  · cases fl with
    | ret u =>
      obtain ⟨e, rest⟩ := B.good u s' post
      exact ⟨by rw [e], rest⟩
    | _ => exact False.elim post
end GX

/-! What the laws of the set share: heaps that grow (several tables), the feed, tuples of numbers, deep data. -/
namespace NA
open PySem PySem.Spec PyProof.Rows L2 GX
/-- the tables of the defs that hold generator expressions -/
def Tabs (Ts : List Addr) (H : Hp) : Prop := ∀ T ∈ Ts, GxR.TabG H T
/-- all that was tracked stands, the tables may have grown -/
structure Ex (Ts : List Addr) (H H' : Hp) : Prop where
  tab : Tabs Ts H'
  keep : ∀ b o, H b = some o → b ∉ Ts → H' b = some o
section
variable {K : PySem.W.Frag} {Ts : List Addr} {H H' H2 : Hp} {a p : Addr} {xs : List V} {x : V} {o : HO}
theorem tab_ne {u : HO} (t : Tabs Ts H) (h : H a = some u) (hu : ∀ ps, u ≠ .tbl ps) : a ∉ Ts := fun m => by
  obtain ⟨ps, q, _⟩ := t a m
  rw [q] at h
  exact hu ps (Option.some.inj h).symm
theorem Ex.refl (t : Tabs Ts H) : Ex Ts H H := ⟨t, fun _ _ h _ => h⟩
theorem Ex.trans (a : Ex Ts H H') (b : Ex Ts H' H2) : Ex Ts H H2 := ⟨b.tab, fun c o h n => b.keep c o (a.keep c o h n) n⟩
theorem Ex.new (t : Tabs Ts H) (h : H p = none) : Ex Ts H (upd H p o) :=
  ⟨fun T hT => by
    obtain ⟨ps, q, r⟩ := t T hT
    exact ⟨ps, by rw [upd_ne (ne_of_none q h)]; exact q, r⟩, fun b u e _ => by rw [upd_ne (ne_of_none e h)]; exact e⟩
theorem Ex.tabbed {T : Addr} (hT : T ∈ Ts) (t : Tabs Ts H) (h : GxR.Tabbed T H H') : Ex Ts H H' := by
  refine ⟨fun S hS => ?_, fun b o e n => by rw [h.2 b fun z => n (z ▸ hT)]; exact e⟩
  by_cases z : S = T
  · rw [z]
    exact h.1
  · obtain ⟨ps, q, r⟩ := t S hS
    exact ⟨ps, by rw [h.2 S z]; exact q, r⟩
theorem Ex.sqt (e : Ex Ts H H') (t : Tabs Ts H) (h : SqT K H a xs) : SqT K H' a xs := by
  rcases h with (h | ⟨o, h⟩) | h
  · exact .inl (.inl (e.keep _ _ h (tab_ne t h fun _ z => by cases z)))
  · exact .inl (.inr ⟨o, e.keep _ _ h (tab_ne t h fun _ z => by cases z)⟩)
  · exact .inr h
theorem Ex.sql (e : Ex Ts H H') (t : Tabs Ts H) (h : SqL K H a xs) : SqL K H' a xs := by
  rcases h with (h | ⟨o, h⟩) | h
  · exact .inl (.inl (e.keep _ _ h (tab_ne t h fun _ z => by cases z)))
  · exact .inl (.inr ⟨o, e.keep _ _ h (tab_ne t h fun _ z => by cases z)⟩)
  · exact .inr h
end
/-- the feed at f: the script at a (to be read whatever stands at f), three numbers -/
def Sc (K : PySem.W.Frag) (f a : Addr) (ns : List Int) (H : Hp) : Prop := ∀ o, SqL K (upd H f o) a (ns.map V.int)
def fd4 (a : Addr) (p q t : Int) : HO := .lst [.ref a, .int p, .int q, .int t]
structure Fd (K : PySem.W.Frag) (f a : Addr) (ns : List Int) (H : Hp) : Prop where
  at_ : ∃ p q t : Int, H f = some (fd4 a p q t) ∧ 0 ≤ p ∧ 0 ≤ q ∧ 0 ≤ t
  sc : Sc K f a ns H
theorem upd_self {H : Hp} {f : Addr} {o : HO} (h : H f = some o) : upd H f o = H := by
  funext b
  unfold upd
  split
  · rename_i e
    rw [e, h]
  · rfl
theorem Fd.script {K : PySem.W.Frag} {f a : Addr} {ns : List Int} {H : Hp} (h : Fd K f a ns H) : SqL K H a (ns.map V.int) := by
  obtain ⟨p, q, t, e, _⟩ := h.at_
  have := h.sc (fd4 a p q t)
  rw [upd_self e] at this
  exact this
theorem Fd.put {K : PySem.W.Frag} {f a : Addr} {ns : List Int} {H : Hp} (h : Fd K f a ns H) {p q t : Int} (hp : 0 ≤ p) (hq : 0 ≤ q) (ht : 0 ≤ t) : Fd K f a ns (upd H f (fd4 a p q t)) :=
  ⟨⟨p, q, t, upd_same, hp, hq, ht⟩, fun o => by rw [upd_upd]; exact h.sc o⟩
/-- all but lists and tables stays -/
def Mv (H H' : Hp) : Prop := ∀ b o, H b = some o → (∀ xs, o ≠ .lst xs) → (∀ ps, o ≠ .tbl ps) → H' b = some o
section
variable {K : PySem.W.Frag} {T : List Addr} {f a b p : Addr} {H H' H2 H0 : Hp} {xs ys : List V} {ns : List Int} {z : V} {Q : VK} {o : HO}
theorem Mv.refl : Mv H H := fun _ _ h _ _ => h
theorem Mv.trans (x : Mv H H') (y : Mv H' H2) : Mv H H2 := fun b o h n1 n2 => y b o (x b o h n1 n2) n1 n2
theorem Ex.mv (e : Ex T H H') (t : Tabs T H) : Mv H H' := fun b o h n1 n2 => e.keep b o h (tab_ne t h n2)
theorem Mv.put {l : List V} (h : H f = some (.lst l)) : Mv H (upd H f o) := fun b u e n1 _ => by
  rw [upd_ne (fun z => ?_)]
  · exact e
  · rw [z, h] at e
    exact n1 l (Option.some.inj e).symm
theorem Mv.sqt (m : Mv H H') (h : SqT K H a xs) : SqT K H' a xs := by
  rcases h with (h | ⟨o, h⟩) | h
  · exact .inl (.inl (m _ _ h (fun _ z => by cases z) (fun _ z => by cases z)))
  · exact .inl (.inr ⟨o, m _ _ h (fun _ z => by cases z) (fun _ z => by cases z)⟩)
  · exact .inr h
theorem Sc.ex (h : Sc K f a ns H) (t : Tabs T H) (e : Ex T H H') : Sc K f a ns H' := fun o => by
  by_cases haf : a = f
  · have z := h (.tbl #[])
    rcases z with (z | ⟨ob, z⟩) | z
    · rw [haf, upd_same] at z
      cases z
    · rw [haf, upd_same] at z
      cases z
    · exact .inr z
  · rcases h o with (z | ⟨ob, z⟩) | z
    · rw [upd_ne haf] at z
      exact .inl (.inl (by rw [upd_ne haf]; exact e.keep _ _ z (tab_ne t z fun _ z => by cases z)))
    · rw [upd_ne haf] at z
      exact .inl (.inr ⟨ob, by rw [upd_ne haf]; exact e.keep _ _ z (tab_ne t z fun _ z => by cases z)⟩)
    · exact .inr z
theorem Fd.ex (h : Fd K f a ns H) (t : Tabs T H) (e : Ex T H H') : Fd K f a ns H' := by
  obtain ⟨p, q, r, h1, h2⟩ := h.at_
  exact ⟨⟨p, q, r, e.keep _ _ h1 (tab_ne t h1 fun _ z => by cases z), h2⟩, h.sc.ex t e⟩
theorem tab_put {l : List V} (t : Tabs T H) (h : H f = some (.lst l)) {o : HO} : Tabs T (upd H f o) := fun S hS => by
  obtain ⟨ps, z, r⟩ := t S hS
  exact ⟨ps, by rw [upd_ne (fun e => by rw [e, h] at z; cases z)]; exact z, r⟩
/-- t + u -/
theorem catAny (t : Tabs T H) (hx : SqT K H a xs) (hy : SqT K H b ys) (hz : xs.length + ys.length ≤ 1000) (h : ∀ H' c, Ex T H H' → SqT K H' c (xs ++ ys) → Q (.ref c) H') : rCatA K (.ref a) (.ref b) H Q := by
  refine ⟨a, b, xs, ys, rfl, rfl, hx, hy, Nat.le_of_lt (small1000 hz), fun e => ?_, fun _ e => ?_, fun _ _ p hp => h _ p (Ex.new t hp) (.inl (.inl upd_same))⟩
  · subst e
    exact h H b (Ex.refl t) hy
  · subst e
    exact h H a (Ex.refl t) (by rw [List.append_nil]; exact hx)
/-- a slice of a tuple -/
theorem slEx {lo hi : Option Int} (t : Tabs T H) (hS : SqT K H a xs) (h : ∀ H' c, Ex T H H' → SqT K H' c (cutV xs lo hi) → Q (.ref c) H') : rSlA K (.ref a) lo hi H Q := by
  refine ⟨a, xs, rfl, hS, fun ⟨e1, e2⟩ => h H a (Ex.refl t) ?_, fun _ p hp => h _ p (Ex.new t hp) (.inl (.inl upd_same))⟩
  have e : cutV xs lo hi = xs := by
    unfold cutV
    rw [e1, e2, List.drop_zero, Nat.sub_zero, List.take_length]
  rw [e]
  exact hS
theorem cut_to (k : Nat) : cutV xs none (some (k : Int)) = xs.take k := by
  unfold cutV
  rw [HT.sIx_none, HT.sIx_nat, List.drop_zero, Nat.sub_zero]
  rcases Nat.le_total k xs.length with h | h
  · rw [Nat.min_eq_left h]
  · rw [Nat.min_eq_right h, List.take_length, List.take_of_length_le h]
theorem cut_last : cutV xs none (some (-1)) = xs.take (xs.length - 1) := by
  have e : HT.sIx xs.length xs.length (some (-1)) = xs.length - 1 := by
    show (if (-1 : Int) < 0 then ((-1 : Int) + (xs.length : Int)).toNat else min (-1 : Int).toNat xs.length) = _
    rw [if_pos (by decide)]
    omega
  unfold cutV
  rw [HT.sIx_none, e, List.drop_zero, Nat.sub_zero]
/-- a list that came behind H is written -/
theorem Ex.late {l : List V} (e : Ex T H H') (hp : H p = none) (h : H' p = some (.lst l)) : Ex T H (upd H' p o) :=
  ⟨tab_put e.tab h, fun b u hb nb => by rw [upd_ne (ne_of_none hb hp)]; exact e.keep b u hb nb⟩
end
/-! ### tuples of numbers -/
abbrev dInts (ns : List Int) : PyData := .tuple (ns.map PyData.int)
/-- z is the tuple of the numbers ns -/
def Tp (K : PySem.W.Frag) (H : Hp) (z : V) (ns : List Int) : Prop := ∃ a, z = .ref a ∧ SqT K H a (ns.map V.int)
inductive Tps (K : PySem.W.Frag) (H : Hp) : List V → List (List Int) → Prop
  | nil : Tps K H [] []
  | cons {z : V} {zs : List V} {ns : List Int} {nss : List (List Int)} : Tp K H z ns → Tps K H zs nss → Tps K H (z :: zs) (ns :: nss)
section
variable {K : PySem.W.Frag} {T : List Addr} {a : Addr} {H H' : Hp} {zs : List V} {nss : List (List Int)} {z : V} {ns ms : List Int}
theorem Mv.tp (m : Mv H H') (h : Tp K H z ns) : Tp K H' z ns := h.elim fun a x => ⟨a, x.1, m.sqt x.2⟩
theorem Mv.tps (m : Mv H H') (h : Tps K H zs nss) : Tps K H' zs nss := by
  induction h with
  | nil => exact .nil
  | cons x _ ih => exact .cons (m.tp x) ih
theorem Ex.tp (e : Ex T H H') (t : Tabs T H) (h : Tp K H z ns) : Tp K H' z ns := (e.mv t).tp h
theorem Ex.tps (e : Ex T H H') (t : Tabs T H) (h : Tps K H zs nss) : Tps K H' zs nss := (e.mv t).tps h
theorem Tps.snoc (h : Tps K H zs nss) (x : Tp K H z ns) : Tps K H (zs ++ [z]) (nss ++ [ns]) := by
  induction h with
  | nil => exact .cons x .nil
  | cons y _ ih => exact .cons y ih
theorem Tps.length (h : Tps K H zs nss) : zs.length = nss.length := by
  induction h with
  | nil => rfl
  | cons _ _ ih => exact congrArg Nat.succ ih
theorem Tps.at (h : Tps K H zs nss) : ∀ {i : Nat} {z : V}, zs[i]? = some z → ∃ ns, ns ∈ nss ∧ Tp K H z ns := by
  induction h with
  | nil => exact fun e => by cases e
  | cons y _ ih =>
    intro i z e
    cases i with
    | zero =>
      cases e
      exact ⟨_, List.mem_cons_self .., y⟩
    | succ i => exact (ih e).imp fun ns x => ⟨List.mem_cons_of_mem _ x.1, x.2⟩
theorem dp_ints : ∀ ns : List Int, DpAll K H (ns.map V.int) (ns.map PyData.int)
  | [] => .nil
  | i :: r => .cons (.int i) (dp_ints r)
theorem Tp.dp (h : Tp K H z ns) : Dp K H z (dInts ns) := by
  obtain ⟨a, rfl, x⟩ := h
  exact .tup x (dp_ints ns)
theorem Tps.dps (h : Tps K H zs nss) : DpAll K H zs (nss.map dInts) := by
  induction h with
  | nil => exact .nil
  | cons x _ ih => exact .cons x.dp ih
theorem eqv_ints : ∀ ns ms : List Int, PyData.eqvAll (ns.map PyData.int) (ms.map PyData.int) = decide (ns = ms)
  | [], [] => rfl
  | [], _ :: _ => rfl
  | _ :: _, [] => rfl
  | i :: r, j :: t => by
    show ((i == j) && PyData.eqvAll (r.map PyData.int) (t.map PyData.int)) = _
    rw [eqv_ints r t]
    by_cases h1 : i = j <;> by_cases h2 : r = t <;> simp [h1, h2]
end
/-! ### how long what is shown is -/
theorem piled_le {m : Nat} : ∀ {ts : List Str}, (∀ t ∈ ts, t.length ≤ m) → piled ts ≤ ts.length * (m + 2)
  | [], _ => Nat.zero_le _
  | t :: r, h => by
    rw [piled_cons, List.length_cons, Nat.succ_mul]
    have h1 := h t (List.mem_cons_self ..)
    have h2 := piled_le (m := m) (ts := r) fun x hx => h x (List.mem_cons_of_mem _ hx)
    omega
theorem tupText_le (ts : List Str) : (tupleText ts).length ≤ piled ts + 3 := by
  unfold tupleText
  rw [strLen_append, strLen_append]
  have e1 : ((("(" : String) : Str)).length = 1 := rfl
  have e2 : (((if ts.length == 1 then ",)" else ")" : String) : Str)).length ≤ 2 := by split <;> decide
  by_cases h : ts = []
  · subst h
    have e3 : (Str.join ", " []).length = 0 := rfl
    omega
  · have := join_length_add ts h
    omega
theorem shownAll_map : ∀ ds : List PyData, PyData.shownAll ds = ds.map PyData.shown
  | [] => rfl
  | d :: r => by
    show PyData.shown d :: PyData.shownAll r = _
    rw [shownAll_map r]
    rfl
theorem shown_tup_le {ds : List PyData} {m : Nat} (h : ∀ d ∈ ds, d.shown.length ≤ m) : (PyData.tuple ds).shown.length ≤ ds.length * (m + 2) + 3 := by
  show (tupleText (PyData.shownAll ds)).length ≤ _
  rw [shownAll_map]
  have h1 := tupText_le (ds.map PyData.shown)
  have h2 := piled_le (m := m) (ts := ds.map PyData.shown) fun t ht => by
    obtain ⟨d, hd, rfl⟩ := List.mem_map.mp ht
    exact h d hd
  rw [List.length_map] at h2
  omega
theorem depth_tup_le {ds : List PyData} {m : Nat} (h : ∀ d ∈ ds, d.depth ≤ m) : (PyData.tuple ds).depth ≤ m + 1 := by
  show PyData.depthAll ds + 1 ≤ m + 1
  induction ds with
  | nil =>
    show 0 + 1 ≤ m + 1
    omega
  | cons d r ih =>
    have h1 := ih fun x hx => h x (List.mem_cons_of_mem _ hx)
    have h2 := h d (List.mem_cons_self ..)
    show max (PyData.depth d) (PyData.depthAll r) + 1 ≤ m + 1
    omega
theorem able_tup {ds : List PyData} (h : ∀ d ∈ ds, d.showable = true) : (PyData.tuple ds).showable = true := by
  show PyData.showableAll ds = true
  induction ds with
  | nil => rfl
  | cons d r ih =>
    show (PyData.showable d && PyData.showableAll r) = true
    rw [h d (List.mem_cons_self ..), ih fun x hx => h x (List.mem_cons_of_mem _ hx)]
    rfl
theorem lay_tup {ds : List PyData} (h : ∀ d ∈ ds, d.canLay0 = true) : (PyData.tuple ds).canLay0 = true := by
  show PyData.canLayAll0 ds = true
  induction ds with
  | nil => rfl
  | cons d r ih =>
    show (PyData.canLay0 d && PyData.canLayAll0 r) = true
    rw [h d (List.mem_cons_self ..), ih fun x hx => h x (List.mem_cons_of_mem _ hx)]
    rfl
/-- a number of at most two figures -/
def Sm (i : Int) : Prop := 0 ≤ i ∧ i ≤ 99
theorem sm_nat : ∀ n : Nat, n < 100 → (PyData.shown (.int (n : Int))).length ≤ 2 ∧ (PyData.int (n : Int)).showable = true := by decide +kernel
theorem Sm.shown {i : Int} (h : Sm i) : (PyData.shown (.int i)).length ≤ 2 ∧ (PyData.int i).showable = true := by
  obtain ⟨n, rfl⟩ := Int.eq_ofNat_of_zero_le h.1
  exact sm_nat n (by have := h.2; omega)
theorem mem_ints {ns : List Int} {d : PyData} (h : d ∈ ns.map PyData.int) : ∃ i ∈ ns, d = .int i := by
  obtain ⟨i, hi, e⟩ := List.mem_map.mp h
  exact ⟨i, hi, e.symm⟩
/-- what can be shown, and how long -/
structure Sh (d : PyData) (m k : Nat) : Prop where
  able : d.showable = true
  depth : d.depth ≤ k
  long : d.shown.length ≤ m
theorem sh_ints {ns : List Int} (h : ∀ i ∈ ns, Sm i) : Sh (dInts ns) (ns.length * 4 + 3) 1 := by
  refine ⟨able_tup fun d hd => ?_, depth_tup_le fun d hd => ?_, ?_⟩
  · obtain ⟨i, hi, rfl⟩ := mem_ints hd
    exact (h i hi).shown.2
  · obtain ⟨i, hi, rfl⟩ := mem_ints hd
    exact Nat.le_refl _
  · have := shown_tup_le (ds := ns.map PyData.int) (m := 2) fun d hd => by
      obtain ⟨i, hi, rfl⟩ := mem_ints hd
      exact (h i hi).shown.1
    rw [List.length_map] at this
    exact this
theorem shaped_ints (ns : List Int) : SeqAt.shaped (dInts ns) = true := by
  have h1 : (dInts ns).canLay0 = true := lay_tup fun d hd => by
    obtain ⟨i, hi, rfl⟩ := mem_ints hd
    rfl
  have h2 : (dInts ns).depth ≤ 1 := depth_tup_le fun d hd => by
    obtain ⟨i, hi, rfl⟩ := mem_ints hd
    exact Nat.le_refl _
  show ((dInts ns).canLay0 && decide ((dInts ns).depth ≤ 64)) = true
  rw [h1, decide_eq_true (by omega)]
  rfl
theorem sh_rows {nss : List (List Int)} {m : Nat} (h : ∀ ns ∈ nss, ns.length ≤ m ∧ ∀ i ∈ ns, Sm i) : Sh (.tuple (nss.map dInts)) (nss.length * (m * 4 + 5) + 3) 2 := by
  have at_ : ∀ d ∈ nss.map dInts, Sh d (m * 4 + 3) 1 := fun d hd => by
    obtain ⟨ns, hn, rfl⟩ := List.mem_map.mp hd
    have z := sh_ints (h ns hn).2
    have := (h ns hn).1
    have := z.long
    exact ⟨z.able, z.depth, by omega⟩
  refine ⟨able_tup fun d hd => (at_ d hd).able, depth_tup_le fun d hd => (at_ d hd).depth, ?_⟩
  have := shown_tup_le (ds := nss.map dInts) (m := m * 4 + 3) fun d hd => (at_ d hd).long
  rw [List.length_map] at this
  exact this
/-- tuple(.. for j in range(lo, lo + n)) -/
theorem tupRange {lo : Int} {n j : Nat} {te : TE} {σw : L2.St} {vs : List Nat} {fin : List V → Hp → Prop} {H2 : Hp} (Pv : List V → Nat → Hp → Prop) (h0 : Pv [] 0 H2) (hw : ∀ x, wipe (σw.set j (some x)) vs = σw)
    (step : ∀ ys i H, i < n → Pv ys i H → te (σw.set j (some (.int (lo + (i : Nat))))) H fun y H4 => ys.length < sizeLine ∧ Pv (ys ++ [y]) (i + 1) H4) (done : ∀ ys H, Pv ys n H → fin ys H) :
    ∃ W : List V → Nat → Nat → Hp → Prop, (∃ m, W [] 0 m H2) ∧ Turns (Itr lo n) (gName j) tYes te σw vs W fin outL := by
  refine ⟨fun ys i m H => m + i = n ∧ Pv ys i H, ⟨n, rfl, h0⟩, ?_⟩
  rintro ys i m H ⟨e, p⟩
  rcases Nat.lt_or_ge i n with lt | ge
  · refine .inr ⟨lt, fun ys' H' => Pv ys' (i + 1) H', fun ys' H' p' => ⟨n - (i + 1), by omega, by omega, p'⟩, fun x H' y => ?_⟩
    obtain ⟨rfl, rfl⟩ := y
    exact ⟨hw _, step ys i H' lt p⟩
  · obtain rfl : i = n := by omega
    exact .inl ⟨ge, done ys H p⟩
/-- [.. for j in range(lo, lo + n) if ..] -/
theorem lcRange {lo : Int} {n j : Nat} {tt : TT} {te : TE} {σ : L2.St} {vs : List Nat} {Qd : Hp → Prop} {H1 : Hp} {D : Addr} (Pv : Nat → Hp → Prop) (h0 : Pv 0 (upd H1 D (.lst []))) (hw : ∀ x, wipe ((wipe σ vs).set j (some x)) vs = wipe σ vs)
    (step : ∀ i H, i < n → Pv i H → tt ((wipe σ vs).set j (some (.int (lo + (i : Nat))))) H fun b H3 => if b = true then te ((wipe σ vs).set j (some (.int (lo + (i : Nat))))) H3 fun y H4 => ∃ acc, H4 D = some (.lst acc) ∧ acc.length < sizeLine ∧ Pv (i + 1) (upd H4 D (.lst (acc ++ [y]))) else Pv (i + 1) H3)
    (done : ∀ H, Pv n H → Qd H) : ∃ W : Nat → Nat → Hp → Prop, (∃ m, W 0 m (upd H1 D (.lst []))) ∧ ∀ i m H, W i m H →
      ((Itr lo n).stop i H ∧ Qd H) ∨ ((Itr lo n).go i H ∧ ∃ Nx : Hp → Prop, (∀ H', Nx H' → ∃ m', m' < m ∧ W (i + 1) m' H') ∧ ∀ x H', (Itr lo n).yld i H x H' → gName j x (wipe σ vs) H' fun σ2 H2 => wipe σ2 vs = wipe σ vs ∧ tt σ2 H2 fun b H3 =>
        if b = true then te σ2 H3 fun y H4 => ∃ acc, H4 D = some (.lst acc) ∧ acc.length < sizeLine ∧ Nx (upd H4 D (.lst (acc ++ [y]))) else Nx H3) := by
  refine ⟨fun i m H => m + i = n ∧ Pv i H, ⟨n, rfl, h0⟩, ?_⟩
  rintro i m H ⟨e, p⟩
  rcases Nat.lt_or_ge i n with lt | ge
  · refine .inr ⟨lt, fun H' => Pv (i + 1) H', fun H' p' => ⟨n - (i + 1), by omega, by omega, p'⟩, fun x H' y => ?_⟩
    obtain ⟨rfl, rfl⟩ := y
    exact ⟨hw _, step i H' lt p⟩
  · obtain rfl : i = n := by omega
    exact .inl ⟨ge, done H p⟩
/-- what begins a row -/
def begs (ns : List Int) (k : Nat) : List (List Int) := (List.range k).map fun i => ns.take (i + 1)
theorem begs_succ (ns : List Int) (k : Nat) : begs ns (k + 1) = begs ns k ++ [ns.take (k + 1)] := by
  unfold begs
  rw [List.range_succ, List.map_append]
  rfl
theorem begs_length (ns : List Int) (k : Nat) : (begs ns k).length = k := by
  unfold begs
  rw [List.length_map, List.length_range]
theorem begs_mem {ns ms : List Int} {k : Nat} (h : ms ∈ begs ns k) : ms.length ≤ ns.length ∧ ∀ i ∈ ms, i ∈ ns := by
  obtain ⟨i, _, rfl⟩ := List.mem_map.mp h
  exact ⟨by rw [List.length_take]; omega, fun j hj => List.mem_of_mem_take hj⟩
section
variable {K : PySem.W.Frag} {H : Hp} {zs : List V} {nss : List (List Int)} {z : V} {o : HO}
theorem sql_new {g a : Addr} (h : SqL K H a zs) (hg : H g = none) : SqL K (upd H g o) a zs := by
  rcases h with (h | ⟨ob, h⟩) | h
  · exact .inl (.inl (by rw [upd_ne (ne_of_none h hg)]; exact h))
  · exact .inl (.inr ⟨ob, by rw [upd_ne (ne_of_none h hg)]; exact h⟩)
  · exact .inr h
theorem Tps.mem (h : Tps K H zs nss) (hz : z ∈ zs) : ∃ ns ∈ nss, Tp K H z ns := by
  obtain ⟨i, e⟩ := List.mem_iff_getElem?.mp hz
  exact (h.at e).imp fun _ x => x
end
theorem at_mem {zs : List V} {k : Int} (h0 : 0 ≤ k) (h1 : k < (zs.length : Int)) : ∃ z, z ∈ zs ∧ atI zs k = some z := by
  obtain ⟨j, rfl⟩ : ∃ j : Nat, k = (j : Int) := ⟨k.toNat, by omega⟩
  have hk : j < zs.length := by omega
  exact ⟨zs[j], List.getElem_mem hk, atI_nat (List.getElem?_eq_getElem hk)⟩
section
variable {K : PySem.W.Frag} {T : List Addr} {a : Addr} {H H' : Hp} {z : V} {d : PyData} {xs ys : List V} {ds es : List PyData} {Q : VK}
/-! ### lists of data -/
theorem dpa_length (h : DpAll K H xs ds) : xs.length = ds.length := by
  induction xs generalizing ds with
  | nil => cases h; rfl
  | cons x r ih => cases h with | cons _ t => exact congrArg Nat.succ (ih t)
theorem dpa_append (h : DpAll K H xs ds) (h2 : DpAll K H ys es) : DpAll K H (xs ++ ys) (ds ++ es) := by
  induction xs generalizing ds with
  | nil => cases h; exact h2
  | cons x r ih => cases h with | cons u t => exact .cons u (ih t)
theorem dpa_take (n : Nat) (h : DpAll K H xs ds) : DpAll K H (xs.take n) (ds.take n) := by
  induction n generalizing xs ds with
  | zero => exact .nil
  | succ n ih =>
    cases xs with
    | nil => cases h; exact .nil
    | cons x r => cases h with | cons u t => exact .cons u (ih t)
theorem dpa_drop (n : Nat) (h : DpAll K H xs ds) : DpAll K H (xs.drop n) (ds.drop n) := by
  induction n generalizing xs ds with
  | zero => exact h
  | succ n ih =>
    cases xs with
    | nil => cases h; exact .nil
    | cons x r => cases h with | cons u t => exact ih t
theorem dpa_at (h : DpAll K H xs ds) : ∀ {i : Nat} {x : V}, xs[i]? = some x → ∃ d, ds[i]? = some d ∧ Dp K H x d := by
  induction xs generalizing ds with
  | nil => exact fun e => by cases e
  | cons y r ih =>
    cases h with
    | cons u t =>
      intro i x e
      cases i with
      | zero => cases e; exact ⟨_, rfl, u⟩
      | succ i => exact ih t e
theorem dpa_to (h : DpAll K H xs ds) : ∀ {i : Nat} {d : PyData}, ds[i]? = some d → ∃ x, xs[i]? = some x ∧ Dp K H x d := by
  induction xs generalizing ds with
  | nil => cases h; exact fun e => by cases e
  | cons y r ih =>
    cases h with
    | cons u t =>
      intro i x e
      cases i with
      | zero => cases e; exact ⟨_, rfl, u⟩
      | succ i => exact ih t e
theorem cut_map (lo hi : Option Int) (h : DpAll K H xs ds) : DpAll K H (cutV xs lo hi) ((ds.drop (HT.sIx ds.length 0 lo)).take (HT.sIx ds.length ds.length hi - HT.sIx ds.length 0 lo)) := by
  unfold cutV
  rw [dpa_length h]
  exact dpa_take _ (dpa_drop _ h)
mutual
theorem Ex.dp (e : Ex T H H') (t : Tabs T H) : ∀ {d : PyData} {z : V}, Dp K H z d → Dp K H' z d
  | _, _, .non => .non
  | _, _, .bl b => .bl b
  | _, _, .int i => .int i
  | _, _, .str x => .str x
  | _, _, .lst h r => .lst (e.sql t h) (Ex.dps e t r)
  | _, _, .tup h r => .tup (e.sqt t h) (Ex.dps e t r)
theorem Ex.dps (e : Ex T H H') (t : Tabs T H) : ∀ {ds : List PyData} {xs : List V}, DpAll K H xs ds → DpAll K H' xs ds
  | _, _, .nil => .nil
  | _, _, .cons u r => .cons (Ex.dp e t u) (Ex.dps e t r)
end
/-! ### kinds -/
/-- the name of its type -/
def tyN : PyData → String
  | .none => "NoneType"
  | .bool _ => "bool"
  | .int _ => "int"
  | .str _ => "str"
  | .list _ => "list"
  | .tuple _ => "tuple"
  | .dict _ => "dict"
theorem ty_of (h : Dp K H z d) : TyX K H z (.type (tyN d)) := by
  cases h with
  | non => exact .base .non
  | bl b => exact .base (.bl b)
  | int i => exact .base (.int i)
  | str s => exact .base (.str s)
  | lst h _ =>
    rcases h with (h | ⟨o, h⟩) | ⟨o, its, n, h, c, _⟩
    · exact .base (.lst h)
    · exact .base (.frz h)
    · exact .kList h c
  | tup h _ =>
    rcases h with (h | ⟨o, h⟩) | ⟨o, its, n, h, c, _⟩
    · exact .base (.tup h)
    · exact .fTuple h
    · exact .kTuple h c
def isI : PyData → Bool
  | .int _ => true
  | .bool _ => true
  | _ => false
def isB : PyData → Bool
  | .bool _ => true
  | _ => false
def isT : PyData → Bool
  | .tuple _ => true
  | _ => false
def isS : PyData → Bool
  | .str _ => true
  | _ => false
/-- isinstance(z, c) -/
theorem kitInt (h : Dp K H z d) : PySem.W.kitOne K (.type (tyN d)) (.type "int") = some (isI d) := by cases h <;> exact kit_ty (by kernel_rfl)
theorem kitBool (h : Dp K H z d) : PySem.W.kitOne K (.type (tyN d)) (.type "bool") = some (isB d) := by cases h <;> exact kit_ty (by kernel_rfl)
theorem kitTuple (h : Dp K H z d) : PySem.W.kitOne K (.type (tyN d)) (.type "tuple") = some (isT d) := by cases h <;> exact kit_ty (by kernel_rfl)
theorem kitStr (h : Dp K H z d) : PySem.W.kitOne K (.type (tyN d)) (.type "str") = some (isS d) := by cases h <;> exact kit_ty (by kernel_rfl)
end
/-! ### the kinds of the document -/
def whD : PyData → Bool
  | .int _ => true
  | _ => false
def btwD (d : PyData) (lo hi : Int) : Bool := match d with
  | .int i => decide (lo ≤ i) && decide (i ≤ hi)
  | _ => false
def fromD (d : PyData) (lo : Int) : Bool := match d with
  | .int i => decide (lo ≤ i)
  | _ => false
def rowD (d : PyData) (n : Int) : Bool := match d with
  | .tuple ds => decide ((ds.length : Int) = n)
  | _ => false
def seatD (d : PyData) : Bool := match d with
  | .tuple (x :: r) => decide (r.length ≤ 4) && (btwD x 0 3 && r.all fun y => btwD y 1 99)
  | _ => false
def dotD (d : PyData) : Bool := match d with
  | .tuple [x, y] => seatD x && fromD y 1
  | _ => false
/-! ### walking -/
/-- J walks xs, whatever heap Pv lets by -/
structure Walks (J : It) (xs : List V) (Pv : Hp → Prop) : Prop where
  go : ∀ i H, Pv H → i < xs.length → J.go i H
  yld : ∀ i H x H', Pv H → J.yld i H x H' → H' = H ∧ xs[i]? = some x
  stop : ∀ H, Pv H → J.stop xs.length H
theorem walks_tup {K : PySem.W.Frag} {a : Addr} {xs : List V} {Pv : Hp → Prop} (h : ∀ H, Pv H → SqT K H a xs) : Walks (Itt K a) xs Pv :=
  ⟨fun i H p lt => ⟨xs, xs[i], h H p, List.getElem?_eq_getElem lt⟩, fun i H x H' p y => ⟨y.1, y.2 xs (h H p)⟩, fun H p => ⟨xs, h H p, Nat.le_refl _⟩⟩
theorem walks_list {K : PySem.W.Frag} {a : Addr} {xs : List V} {Pv : Hp → Prop} (h : ∀ H, Pv H → SqL K H a xs) : Walks (Itl K a) xs Pv :=
  ⟨fun i H p lt => ⟨xs, xs[i], h H p, List.getElem?_eq_getElem lt⟩, fun i H x H' p y => ⟨y.1, y.2 xs (h H p)⟩, fun H p => ⟨xs, h H p, Nat.le_refl _⟩⟩
def signs (x : Str) : List V := x.cps.toList.map fun c => .str ⟨#[c]⟩
theorem walks_str {x : Str} {Pv : Hp → Prop} : Walks (Its x) (signs x) Pv := by
  have len : (signs x).length = x.cps.size := by unfold signs; rw [List.length_map, Array.length_toList]
  refine ⟨fun i H p lt => Nat.lt_of_lt_of_eq lt len, fun i H y H' p q => ?_, fun H p => Nat.le_of_eq len.symm⟩
  obtain ⟨e, c, hc, rfl⟩ := q
  refine ⟨e, ?_⟩
  unfold signs
  rw [List.getElem?_map, Array.getElem?_toList, hc]
  rfl
/-- all(..) (b = true), any(..) (b = false) -/
theorem aaW {J : It} {xs : List V} {te : TE} {σw : L2.St} {vs : List Nat} {j : Nat} {Q : VK} {H2 : Hp} (b : Bool) (f : V → Bool) (Pv : Hp → Prop) (w : Walks J xs Pv) (h2 : Pv H2) (hw : ∀ x, wipe (σw.set j (some x)) vs = σw)
    (he : ∀ x ∈ xs, ∀ H, Pv H → ∀ R : VK, (∀ H', Pv H' → R (.bl (f x)) H') → te (σw.set j (some x)) H R) (hQ : ∀ H, Pv H → Q (.bl (if b then xs.all f else xs.any f)) H) :
    ∃ W : Unit → Nat → Nat → Hp → Prop, (∃ m, W () 0 m H2) ∧ Turns J (gName j) tYes te σw vs W (fun _ => Q (.bl b)) (outB b Q) := by
  refine ⟨fun _ i m H => m + i = xs.length ∧ Pv H ∧ ∀ x ∈ xs.take i, f x = b, ⟨xs.length, rfl, h2, by simp⟩, ?_⟩
  rintro _ i m H ⟨e, p, ha⟩
  rcases Nat.lt_or_ge i xs.length with lt | ge
  · refine .inr ⟨w.go i H p lt, fun _ H => Pv H ∧ ∀ x ∈ xs.take (i + 1), f x = b, fun _ H' p' => ⟨xs.length - (i + 1), by omega, by omega, p'⟩, fun x H' y => ?_⟩
    obtain ⟨rfl, hx⟩ := w.yld i H x H' p y
    have mem : x ∈ xs := List.mem_of_getElem? hx
    refine ⟨hw x, ?_⟩
    show te (σw.set j (some x)) H' (fun y H4 => outB b Q () y H4 fun _ H => Pv H ∧ ∀ x ∈ xs.take (i + 1), f x = b)
    refine he x mem H' p _ fun H4 p4 => ⟨f x, rfl, ?_⟩
    by_cases hb : f x = b
    · rw [if_pos hb]
      refine ⟨p4, fun u hu => ?_⟩
      rw [List.take_add_one, hx] at hu
      rcases List.mem_append.mp hu with h | h
      · exact ha u h
      · rw [List.mem_singleton.mp h]
        exact hb
    · rw [if_neg hb]
      have z := hQ H4 p4
      have ez : (if b = true then xs.all f else xs.any f) = !b := by
        cases b with
        | true =>
          rw [if_pos rfl]
          refine Bool.eq_false_iff.mpr fun z => hb (List.all_eq_true.mp z x mem)
        | false =>
          rw [if_neg (by decide)]
          exact List.any_eq_true.mpr ⟨x, mem, by cases h : f x with | true => rfl | false => exact absurd h hb⟩
      rw [ez] at z
      exact z
  · obtain rfl : i = xs.length := by omega
    refine .inl ⟨w.stop H p, ?_⟩
    have z := hQ H p
    rw [List.take_length] at ha
    have ez : (if b = true then xs.all f else xs.any f) = b := by
      cases b with
      | true =>
        rw [if_pos rfl]
        exact List.all_eq_true.mpr ha
      | false =>
        rw [if_neg (by decide)]
        refine Bool.eq_false_iff.mpr fun z => ?_
        obtain ⟨x, hx, hf⟩ := List.any_eq_true.mp z
        rw [ha x hx] at hf
        cases hf
    rw [ez] at z
    exact z
/-! ### promises on kinds -/
def spWhole (K : PySem.W.Frag) : Sp := fun vs H Q _ => ∃ z d, vs = [z] ∧ Dp K H z d ∧ Q (.bl (whD d)) H
def spFrom (K : PySem.W.Frag) : Sp := fun vs H Q _ => ∃ (z : V) (d : PyData) (lo : Int), vs = [z, .int lo] ∧ Dp K H z d ∧ Q (.bl (fromD d lo)) H
def spBtw (K : PySem.W.Frag) : Sp := fun vs H Q _ => ∃ (z : V) (d : PyData) (lo hi : Int), vs = [z, .int lo, .int hi] ∧ Dp K H z d ∧ Q (.bl (btwD d lo hi)) H
def spRow (K : PySem.W.Frag) : Sp := fun vs H Q _ => ∃ (z : V) (d : PyData) (n : Int), vs = [z, .int n] ∧ Dp K H z d ∧ Q (.bl (rowD d n)) H
/-- what is asked of a thing of any kind; behind it the tables may have grown -/
def spAsk (f : PyData → Bool) (K : PySem.W.Frag) (Ts : List Addr) : Sp := fun vs H Q _ => ∃ (z : V) (d : PyData), vs = [z] ∧ Tabs Ts H ∧ Dp K H z d ∧ ∀ H', Ex Ts H H' → Q (.bl (f d)) H'
abbrev spSeat := spAsk seatD
abbrev spDot := spAsk dotD
theorem btw_lo {i lo hi : Int} (c : decide (lo ≤ i) = true) : btwD (.int i) lo hi = decide (i ≤ hi) := by
  show (decide (lo ≤ i) && decide (i ≤ hi)) = _
  rw [c, Bool.true_and]
theorem btw_no {i lo hi : Int} (c : ¬ decide (lo ≤ i) = true) : btwD (.int i) lo hi = false := by
  show (decide (lo ≤ i) && decide (i ≤ hi)) = _
  rw [Bool.eq_false_iff.mpr c, Bool.false_and]
theorem decInt (i j : Int) : decide (V.int i = V.int j) = decide (i = j) := by
  by_cases h : i = j
  · rw [h, decide_eq_true rfl, decide_eq_true rfl]
  · rw [decide_eq_false h, decide_eq_false fun z => h (by injection z)]
def btwV (x : V) (lo hi : Int) : Bool := match x with
  | .int i => decide (lo ≤ i) && decide (i ≤ hi)
  | _ => false
theorem btwV_eq {K : PySem.W.Frag} {H : Hp} {x : V} {d : PyData} {lo hi : Int} (h : Dp K H x d) : btwV x lo hi = btwD d lo hi := by
  cases h <;> rfl
theorem dpa_all {K : PySem.W.Frag} {H : Hp} (fV : V → Bool) (fD : PyData → Bool) (he : ∀ x d, Dp K H x d → fV x = fD d) : ∀ {xs : List V} {ds : List PyData}, DpAll K H xs ds → xs.all fV = ds.all fD
  | [], _, .nil => rfl
  | x :: r, _, .cons u t => by rw [List.all_cons, List.all_cons, he _ _ u, dpa_all fV fD he t]
theorem dpa_mem {K : PySem.W.Frag} {H : Hp} {x : V} {xs : List V} {ds : List PyData} (h : DpAll K H xs ds) (hx : x ∈ xs) : ∃ d, d ∈ ds ∧ Dp K H x d := by
  obtain ⟨i, e⟩ := List.mem_iff_getElem?.mp hx
  obtain ⟨d, e2, u⟩ := dpa_at h e
  exact ⟨d, List.mem_of_getElem? e2, u⟩
theorem at0 (x : V) (r : List V) : atI (x :: r) 0 = some x := atI_nat (j := 0) rfl
theorem cut1 {x : V} {r : List V} : cutV (x :: r) (some 1) none = r := by
  have e : HT.sIx (x :: r).length 0 (some 1) = 1 := by
    rw [show HT.sIx (x :: r).length 0 (some 1) = min 1 (x :: r).length from HT.sIx_nat (x :: r).length 0 1, List.length_cons]
    omega
  unfold cutV
  rw [e, HT.sIx_none]
  show List.take ((x :: r).length - 1) r = r
  rw [List.length_cons, Nat.add_sub_cancel]
  exact List.take_length
theorem at1 (x y : V) (r : List V) : atI (x :: y :: r) 1 = some y := atI_nat (j := 1) rfl
theorem dot_len {ds : List PyData} (h : ds.length ≠ 2) : dotD (.tuple ds) = false := by
  match ds with
  | [] => rfl
  | [_] => rfl
  | [_, _] => exact absurd rfl h
  | _ :: _ :: _ :: _ => rfl
theorem dpa_two {K : PySem.W.Frag} {H : Hp} {xs : List V} {ds : List PyData} (h : DpAll K H xs ds) (n : ds.length = 2) : ∃ x y dx dy, xs = [x, y] ∧ ds = [dx, dy] ∧ Dp K H x dx ∧ Dp K H y dy := by
  cases h with
  | nil => cases n
  | cons hx t =>
    cases t with
    | nil => cases n
    | cons hy t =>
      cases t with
      | nil => exact ⟨_, _, _, _, rfl, rfl, hx, hy⟩
      | cons _ _ => simp at n
theorem dpa_three {K : PySem.W.Frag} {H : Hp} {xs : List V} {ds : List PyData} (h : DpAll K H xs ds) (n : ds.length = 3) : ∃ x y z dx dy dz, xs = [x, y, z] ∧ ds = [dx, dy, dz] ∧ Dp K H x dx ∧ Dp K H y dy ∧ Dp K H z dz := by
  cases h with
  | nil => cases n
  | cons hx t =>
    obtain ⟨y, z, dy, dz, rfl, rfl, hy, hz⟩ := dpa_two t (by simpa using n)
    exact ⟨_, _, _, _, _, _, rfl, rfl, hx, hy, hz⟩
/-- [x for x in .. if ..] over what J walks, whatever is drawn from it -/
theorem lcW {J : It} {xs : List V} {j : Nat} {tt : TT} {te : TE} {σ : L2.St} {vs : List Nat} {Qd : Hp → Prop} {H1 : Hp} {D : Addr} (Pv : Nat → Hp → Prop) (w : Walks J xs (fun H => ∃ i, i ≤ xs.length ∧ Pv i H)) (h0 : Pv 0 (upd H1 D (.lst []))) (hw : ∀ x, wipe ((wipe σ vs).set j (some x)) vs = wipe σ vs)
    (step : ∀ i x H, xs[i]? = some x → Pv i H → tt ((wipe σ vs).set j (some x)) H fun b H3 => if b = true then te ((wipe σ vs).set j (some x)) H3 fun y H4 => ∃ acc, H4 D = some (.lst acc) ∧ acc.length < sizeLine ∧ Pv (i + 1) (upd H4 D (.lst (acc ++ [y]))) else Pv (i + 1) H3)
    (done : ∀ H, Pv xs.length H → Qd H) : ∃ W : Nat → Nat → Hp → Prop, (∃ m, W 0 m (upd H1 D (.lst []))) ∧ ∀ i m H, W i m H →
      (J.stop i H ∧ Qd H) ∨ (J.go i H ∧ ∃ Nx : Hp → Prop, (∀ H', Nx H' → ∃ m', m' < m ∧ W (i + 1) m' H') ∧ ∀ x H', J.yld i H x H' → gName j x (wipe σ vs) H' fun σ2 H2 => wipe σ2 vs = wipe σ vs ∧ tt σ2 H2 fun b H3 =>
        if b = true then te σ2 H3 fun y H4 => ∃ acc, H4 D = some (.lst acc) ∧ acc.length < sizeLine ∧ Nx (upd H4 D (.lst (acc ++ [y]))) else Nx H3) := by
  refine ⟨fun i m H => m + i = xs.length ∧ Pv i H, ⟨xs.length, rfl, h0⟩, ?_⟩
  rintro i m H ⟨e, p⟩
  have here : ∃ i, i ≤ xs.length ∧ Pv i H := ⟨i, by omega, p⟩
  rcases Nat.lt_or_ge i xs.length with lt | ge
  · refine .inr ⟨w.go i H here lt, fun H' => Pv (i + 1) H', fun H' p' => ⟨xs.length - (i + 1), by omega, by omega, p'⟩, fun x H' y => ?_⟩
    obtain ⟨rfl, hx⟩ := w.yld i H x H' here y
    exact ⟨hw _, step i x H' hx p⟩
  · obtain rfl : i = xs.length := by omega
    exact .inl ⟨w.stop H here, done H p⟩
/-- [x for x in xs if not f(x)] == []: what holds along the way -/
structure Left (Ts : List Addr) (H1 : Hp) (D : Addr) (xs : List V) (f : V → Bool) (i : Nat) (H' : Hp) : Prop where
  ex : Ex Ts H1 H'
  acc : H' D = some (.lst ((xs.take i).filter fun y => !f y))
theorem Left.same {Ts : List Addr} {H1 H2 H' : Hp} {D : Addr} {xs : List V} {f : V → Bool} {i : Nat} {y : V} (l : Left Ts H1 D xs f i H') (e : Ex Ts H' H2) (hy : xs[i]? = some y) (hf : f y = true) : Left Ts H1 D xs f (i + 1) H2 := by
  refine ⟨l.ex.trans e, ?_⟩
  have z := e.keep _ _ l.acc (tab_ne l.ex.tab l.acc fun _ z => by cases z)
  rw [List.take_add_one, hy, List.filter_append]
  show H2 D = some (.lst (_ ++ List.filter _ [y]))
  rw [List.filter_cons, hf, z]
  simp
theorem Left.more {Ts : List Addr} {H1 H2 H' : Hp} {D : Addr} {xs : List V} {f : V → Bool} {i : Nat} {y : V} (l : Left Ts H1 D xs f i H') (hD : H1 D = none) (e : Ex Ts H' H2) (hy : xs[i]? = some y) (hf : f y = false) : ∃ acc, H2 D = some (.lst acc) ∧ acc.length ≤ i ∧ Left Ts H1 D xs f (i + 1) (upd H2 D (.lst (acc ++ [y]))) := by
  have z := e.keep _ _ l.acc (tab_ne l.ex.tab l.acc fun _ z => by cases z)
  refine ⟨_, z, ?_, (l.ex.trans e).late hD z, ?_⟩
  · have z1 := List.length_filter_le (fun y => !f y) (xs.take i)
    rw [List.length_take] at z1
    omega
  · rw [upd_same, List.take_add_one, hy, List.filter_append]
    show _ = some (HO.lst (_ ++ List.filter _ [y]))
    rw [List.filter_cons, hf]
    simp
theorem none_left (f : V → Bool) : ∀ r : List V, (r.filter fun y => !f y).isEmpty = r.all f
  | [] => rfl
  | y :: r => by
    rw [List.all_cons, List.filter_cons]
    cases h : f y with
    | true => simpa using none_left f r
    | false => simp
theorem in5 (n : Nat) : inV (.int (n : Int)) [.int 1, .int 2, .int 3, .int 4, .int 5] = decide (1 ≤ n ∧ n ≤ 5) := by
  rw [show inV (.int (n : Int)) [.int 1, .int 2, .int 3, .int 4, .int 5] = ((1 : Int) == n || ((2 : Int) == n || ((3 : Int) == n || ((4 : Int) == n || ((5 : Int) == n || false))))) from rfl, Bool.eq_iff_iff]
  simp only [Bool.or_eq_true, beq_iff_eq, Bool.false_eq_true, or_false, decide_eq_true_eq]
  omega
end NA

/-! Readings over plain data: what a def's body does is told by data alone; the heap stands behind it. -/
namespace DL
open PySem PySem.Spec PyProof.Rows L2 GX
/-- the heap without some addresses -/
def hide (H : Hp) (F : List Addr) : Hp := fun b => if b ∈ F then none else H b
/-- all but tables is found again -/
def Sub (H H' : Hp) : Prop := ∀ b o, H b = some o → (∀ ps, o ≠ .tbl ps) → H' b = some o
section
variable {K : PySem.W.Frag} {H H' H2 : Hp} {F F' : List Addr} {a : Addr} {xs : List V} {v : V} {d : PyData} {o : HO}
theorem hide_in (h : a ∈ F) : hide H F a = none := if_pos h
theorem hide_out (h : a ∉ F) : hide H F a = H a := if_neg h
theorem hide_some (h : hide H F a = some o) : H a = some o ∧ a ∉ F := by
  by_cases m : a ∈ F
  · rw [hide_in m] at h
    cases h
  · rw [hide_out m] at h
    exact ⟨h, m⟩
theorem Sub.refl : Sub H H := fun _ _ h _ => h
theorem Sub.trans (x : Sub H H') (y : Sub H' H2) : Sub H H2 := fun b o h n => y b o (x b o h n) n
theorem sub_hide : Sub (hide H F) H := fun b o h _ => (hide_some h).1
theorem sub_less (h : ∀ a ∈ F', a ∈ F) : Sub (hide H F) (hide H F') := fun b o e _ => by
  obtain ⟨e, n⟩ := hide_some e
  rw [hide_out fun m => n (h b m)]
  exact e
theorem Sub.sqt (e : Sub H H') (h : SqT K H a xs) : SqT K H' a xs := by
  rcases h with (h | ⟨o, h⟩) | h
  · exact .inl (.inl (e _ _ h fun _ z => by cases z))
  · exact .inl (.inr ⟨o, e _ _ h fun _ z => by cases z⟩)
  · exact .inr h
theorem Sub.sql (e : Sub H H') (h : SqL K H a xs) : SqL K H' a xs := by
  rcases h with (h | ⟨o, h⟩) | h
  · exact .inl (.inl (e _ _ h fun _ z => by cases z))
  · exact .inl (.inr ⟨o, e _ _ h fun _ z => by cases z⟩)
  · exact .inr h
mutual
theorem Sub.dp (e : Sub H H') : ∀ {d : PyData} {z : V}, Dp K H z d → Dp K H' z d
  | _, _, .non => .non
  | _, _, .bl b => .bl b
  | _, _, .int i => .int i
  | _, _, .str x => .str x
  | _, _, .lst h r => .lst (e.sql h) (Sub.dps e r)
  | _, _, .tup h r => .tup (e.sqt h) (Sub.dps e r)
theorem Sub.dps (e : Sub H H') : ∀ {ds : List PyData} {xs : List V}, DpAll K H xs ds → DpAll K H' xs ds
  | _, _, .nil => .nil
  | _, _, .cons u r => .cons (Sub.dp e u) (Sub.dps e r)
end
theorem dps_cat : ∀ {xs ys : List V} {ds es : List PyData}, DpAll K H xs ds → DpAll K H ys es → DpAll K H (xs ++ ys) (ds ++ es)
  | _, _, _, _, .nil, y => y
  | _, _, _, _, .cons u r, y => .cons u (dps_cat r y)
theorem dps_len : ∀ {xs : List V} {ds : List PyData}, DpAll K H xs ds → xs.length = ds.length
  | _, _, .nil => rfl
  | _, _, .cons _ r => congrArg (· + 1) (dps_len r)
end
/-- the ground of an activation: the written part, the tables, the feed (its address, the script, how many numbers stand behind it), the heap and the lists that were others' at its entry -/
structure Bc where
  K : PySem.W.Frag
  Ts : List Addr
  g : Option Addr
  sa : Addr
  ns : List Int
  n : Nat
structure Cc where
  b : Bc
  H0 : Hp
  F0 : List Addr
  hs : List (V × PyData)
/-- the feed -/
def FdOk (B : Bc) (F : List Addr) (H : Hp) : Prop := ∀ g, B.g = some g → g ∈ F ∧ ∃ (cs : List Int), H g = some (.lst (.ref B.sa :: cs.map V.int)) ∧ cs.length = B.n ∧ (∀ c ∈ cs, 0 ≤ c) ∧ SqL B.K (hide H F) B.sa (B.ns.map V.int)
/-- a list, or an object of another kind that is told by itself -/
def Tk (o : Option HO) : Prop := (∃ vs, o = some (.lst vs)) ∨ (∃ φ, o = some (.ext φ)) ∨ ∃ ks, o = some (.dK ks)
theorem Tk.some {o : Option HO} (h : Tk o) : ∃ x, o = some x ∧ ∀ ps, x ≠ .tbl ps := by
  rcases h with ⟨vs, e⟩ | ⟨φ, e⟩ | ⟨ks, e⟩
  · exact ⟨_, e, fun _ z => by cases z⟩
  · exact ⟨_, e, fun _ z => by cases z⟩
  · exact ⟨_, e, fun _ z => by cases z⟩
theorem Tk.keep {H H' : Hp} {a : Addr} (h : Tk (H a)) (k : ∀ o, H a = Option.some o → (∀ ps, o ≠ .tbl ps) → H' a = Option.some o) : Tk (H' a) := by
  rcases h with ⟨vs, e⟩ | ⟨φ, e⟩ | ⟨ks, e⟩
  · exact .inl ⟨vs, k _ e fun _ z => by cases z⟩
  · exact .inr (.inl ⟨φ, k _ e fun _ z => by cases z⟩)
  · exact .inr (.inr ⟨ks, k _ e fun _ z => by cases z⟩)
theorem Tk.no {o : Option HO} (h : Tk o) : o ≠ none := fun z => by
  obtain ⟨x, e, _⟩ := h.some
  rw [z] at e
  cases e
/-- what holds of every heap on the way -/
structure Hk (B : Bc) (F : List Addr) (H : Hp) : Prop where
  tab : NA.Tabs B.Ts H
  fd : FdOk B F H
  trk : ∀ a ∈ F, Tk (H a)
/-- how many cells were read so far -/
def posAt : Option HO → Nat
  | some (.lst (_ :: .int c :: _)) => c.toNat
  | _ => 0
def posOf (B : Bc) (H : Hp) : Nat := match B.g with
  | none => 0
  | some g => if B.n = 2 then posAt (H g) else 0
theorem pos_eq {B : Bc} {H H' : Hp} (h : ∀ g, B.g = some g → H' g = H g) : posOf B H' = posOf B H := by
  unfold posOf
  cases e : B.g with
  | none => rfl
  | some g =>
    show (if B.n = 2 then posAt (H' g) else 0) = if B.n = 2 then posAt (H g) else 0
    rw [h g e]
/-- no more are read ever -/
def LIM : Nat := 2 ^ 100000
/-- behind an expression: new objects, the tables and the feed may have turned; at most κ cells were read -/
structure Ev (B : Bc) (κ : Nat) (F : List Addr) (H H' : Hp) : Prop where
  hk : Hk B F H'
  keep : ∀ b o, H b = some o → b ∉ B.Ts → B.g ≠ some b → H' b = some o
  pos : posOf B H' ≤ posOf B H + κ
section
variable {B : Bc} {H H' H2 : Hp} {F F' : List Addr} {a p : Addr} {xs : List V} {v : V} {d : PyData} {o : HO}
theorem tab_no (t : NA.Tabs B.Ts H) (h : H a = some o) (n : ∀ ps, o ≠ .tbl ps) : a ∉ B.Ts := NA.tab_ne t h n
theorem Ev.refl (h : Hk B F H) : Ev B 0 F H H := ⟨h, fun _ _ h _ _ => h, Nat.le_refl _⟩
theorem Ev.trans {κ κ' : Nat} (x : Ev B κ F H H') (y : Ev B κ' F H' H2) : Ev B (κ + κ') F H H2 := ⟨y.hk, fun b o h n m => y.keep b o (x.keep b o h n m) n m, by have := x.pos; have := y.pos; omega⟩
theorem Ev.le {κ κ' : Nat} (x : Ev B κ F H H') (h : κ ≤ κ') : Ev B κ' F H H' := ⟨x.hk, x.keep, Nat.le_trans x.pos (Nat.add_le_add_left h _)⟩
theorem feed_in (h : Hk B F H) : ∀ b, B.g = some b → b ∈ F := fun b e => (h.fd b e).1
theorem Ev.sub {κ : Nat} (h : Hk B F H) (e : Ev B κ F H H') : Sub (hide H F) (hide H' F) := fun b o x n => by
  obtain ⟨x, m⟩ := hide_some x
  rw [hide_out m]
  exact e.keep b o x (tab_no h.tab x n) fun z => m (feed_in h b z)
theorem Ev.dp {κ : Nat} (h : Hk B F H) (e : Ev B κ F H H') {z : V} {d : PyData} (x : Dp B.K (hide H F) z d) : Dp B.K (hide H' F) z d := (e.sub h).dp x
/-- a new object -/
theorem Ev.new (h : Hk B F H) (n : H p = none) (no : ∀ ps, o ≠ .tbl ps) : Ev B 0 F H (upd H p o) := by
  have pF : p ∉ F := fun m => by
    exact (h.trk p m).no n
  have keep : ∀ b u, H b = some u → (upd H p o) b = some u := fun b u e => by rw [upd_ne (ne_of_none e n)]; exact e
  refine ⟨⟨fun T hT => ?_, fun g e => ?_, fun a m => ?_⟩, fun b u e _ _ => keep b u e, Nat.le_of_eq (pos_eq fun g e => upd_ne fun z => pF (z ▸ (h.fd g e).1))⟩
  · obtain ⟨ps, q, r⟩ := h.tab T hT
    exact ⟨ps, keep _ _ q, r⟩
  · obtain ⟨m, cs, x1, x2, x3, x4⟩ := h.fd g e
    refine ⟨m, cs, keep _ _ x1, x2, x3, Sub.sql (fun b u y _ => ?_) x4⟩
    obtain ⟨y, ny⟩ := hide_some y
    rw [hide_out ny]
    exact keep _ _ y
  · exact (h.trk a m).keep fun o e _ => keep _ _ e
theorem new_out (h : Hk B F H) (n : H p = none) : p ∉ F := fun m => by
  exact (h.trk p m).no n
/-- a table has grown -/
theorem Ev.tabbed {T : Addr} (hT : T ∈ B.Ts) (h : Hk B F H) (t : GxR.Tabbed T H H') : Ev B 0 F H H' := by
  have keep : ∀ b o, H b = some o → b ∉ B.Ts → H' b = some o := fun b o e n => by rw [t.2 b fun z => n (z ▸ hT)]; exact e
  refine ⟨⟨fun S hS => ?_, fun g e => ?_, fun a m => ?_⟩, fun b o e n _ => keep b o e n, Nat.le_of_eq (pos_eq fun g e => ?_)⟩
  · by_cases z : S = T
    · rw [z]
      exact t.1
    · obtain ⟨ps, q, r⟩ := h.tab S hS
      exact ⟨ps, by rw [t.2 S z]; exact q, r⟩
  · obtain ⟨m, cs, x1, x2, x3, x4⟩ := h.fd g e
    refine ⟨m, cs, keep _ _ x1 (tab_no h.tab x1 fun _ z => by cases z), x2, x3, Sub.sql (fun b u y n => ?_) x4⟩
    obtain ⟨y, ny⟩ := hide_some y
    rw [hide_out ny]
    exact keep _ _ y (tab_no h.tab y n)
  · exact (h.trk a m).keep fun o e no => keep _ _ e (tab_no h.tab e no)
  · obtain ⟨_, cs, x1, _⟩ := h.fd g e
    rw [x1]
    exact keep _ _ x1 (tab_no h.tab x1 fun _ z => by cases z)
end
/-- what a slot holds: data; a list of one's own, that may be changed; the feed; a def -/
inductive SV where
  | d (x : PyData)
  | own (xs : List PyData)
  | feed
  | fn (f : Addr)
  | ob (φ : V → Hp → Prop) (st : ∀ v H H', Sub H H' → φ v H → φ v H')
  | oo (φ : Addr → Option HO → Hp → Prop) (st : ∀ a o H H', Sub H H' → φ a o H → φ a o H') (nl : ∀ a vs H, ¬ φ a (some (.lst vs)) H)
/-- one's own -/
def SV.owned : SV → Bool
  | .own _ => true
  | .oo _ _ _ => true
  | _ => false
abbrev DEnv := List (Option SV)
def SvOk (C : Cc) (F : List Addr) (H : Hp) (v : V) : SV → Prop
  | .d x => Dp C.b.K (hide H F) v x
  | .own xs => ∃ a vs, v = .ref a ∧ a ∈ F ∧ a ∉ C.F0 ∧ C.b.g ≠ some a ∧ H a = some (.lst vs) ∧ DpAll C.b.K (hide H F) vs xs
  | .feed => ∃ g, C.b.g = some g ∧ v = .ref g
  | .fn f => v = .ref f
  | .ob φ _ => φ v (hide H F)
  | .oo φ _ _ => ∃ a, v = .ref a ∧ a ∈ F ∧ a ∉ C.F0 ∧ C.b.g ≠ some a ∧ φ a (H a) (hide H F)
/-- slots and heap stand for ρ; κ cells more may be read -/
structure Rel (C : Cc) (κ : Nat) (F : List Addr) (σ : L2.St) (H : Hp) (ρ : DEnv) : Prop where
  hk : Hk C.b F H
  ent : ∀ b o, C.H0 b = some o → b ∉ C.b.Ts → C.b.g ≠ some b → H b = some o
  low : ∀ a ∈ C.F0, a ∈ F
  new : ∀ a ∈ F, a ∈ C.F0 ∨ C.H0 a = none
  slot : ∀ (i : Nat) (s : SV), ρ[i]? = some (some s) → ∃ v, σ[i]? = some (some v) ∧ SvOk C F H v s
  len : ρ.length = σ.length
  held : ∀ p ∈ C.hs, Dp C.b.K (hide H F) p.1 p.2
  apart : ∀ (i j : Nat) (s t : SV) (v : V), s.owned = true → t.owned = true → ρ[i]? = some (some s) → ρ[j]? = some (some t) → σ[i]? = some (some v) → σ[j]? = some (some v) → i = j
  bud : posOf C.b H + κ ≤ LIM
section
variable {C : Cc} {H H' H2 : Hp} {F F' : List Addr} {a p : Addr} {xs : List V} {v : V} {d : PyData} {o : HO} {σ : L2.St} {ρ : DEnv} {s : SV}
theorem SvOk.ev {κ : Nat} (h : Hk C.b F H) (e : Ev C.b κ F H H') (x : SvOk C F H v s) : SvOk C F H' v s := by
  cases s with
  | d y => exact e.dp h x
  | own ys =>
    obtain ⟨a, vs, x1, x2, x3, x4, x5, x6⟩ := x
    exact ⟨a, vs, x1, x2, x3, x4, e.keep _ _ x5 (tab_no h.tab x5 fun _ z => by cases z) x4, (e.sub h).dps x6⟩
  | feed => exact x
  | fn f => exact x
  | ob φ st => exact st _ _ _ (e.sub h) x
  | oo φ st nl =>
    obtain ⟨a, x1, x2, x3, x4, x5⟩ := x
    obtain ⟨o, eo, no⟩ := (h.trk a x2).some
    exact ⟨a, x1, x2, x3, x4, by rw [e.keep a o eo (tab_no h.tab eo no) x4, ← eo]; exact st _ _ _ _ (e.sub h) x5⟩
theorem Rel.lel {κ κ' : Nat} (r : Rel C (κ + κ') F σ H ρ) : Rel C κ F σ H ρ := { r with bud := by have := r.bud; omega }
theorem Rel.le {κ κ' : Nat} (r : Rel C κ F σ H ρ) (h : κ' ≤ κ) : Rel C κ' F σ H ρ := { r with bud := by have := r.bud; omega }
theorem Rel.ev {κ κ' : Nat} (r : Rel C (κ + κ') F σ H ρ) (e : Ev C.b κ F H H') : Rel C κ' F σ H' ρ :=
  ⟨e.hk, fun b o x n m => e.keep b o (r.ent b o x n m) n m, r.low, r.new, fun i s x => (r.slot i s x).imp fun v y => ⟨y.1, y.2.ev r.hk e⟩, r.len, fun p hp => e.dp r.hk (r.held p hp), r.apart, by have := r.bud; have := e.pos; omega⟩
theorem Rel.ev0 {κ : Nat} (r : Rel C κ F σ H ρ) (e : Ev C.b 0 F H H') : Rel C κ F σ H' ρ := (r.le (Nat.le_of_eq (Nat.zero_add κ)) : Rel C (0 + κ) F σ H ρ).ev e
end
/-! ### judgements -/
abbrev DE := DEnv → (PyData → Prop) → Prop
abbrev DT := DEnv → (Bool → Prop) → Prop
abbrev DA := DEnv → (List PyData → Prop) → Prop
/-- as data that may be kept -/
def tD (C : Cc) (κ : Nat) (f : DE) : TE := fun σ H Q => ∃ F ρ R, Rel C κ F σ H ρ ∧ f ρ R ∧ ∀ d, R d → ∀ v H', Ev C.b κ F H H' → Dp C.b.K (hide H' F) v d → Q v H'
/-- looked at: a list of one's own, too -/
def Pk (B : Bc) (F : List Addr) (H : Hp) (v : V) (d : PyData) : Prop := Dp B.K (hide H F) v d ∨ ∃ a vs ds, v = .ref a ∧ d = .list ds ∧ a ∈ F ∧ B.g ≠ some a ∧ H a = some (.lst vs) ∧ DpAll B.K (hide H F) vs ds
def tP (C : Cc) (κ : Nat) (f : DE) : TE := fun σ H Q => ∃ F ρ R, Rel C κ F σ H ρ ∧ f ρ R ∧ ∀ d, R d → ∀ v H', Ev C.b κ F H H' → Pk C.b F H' v d → Q v H'
/-- a new list -/
def tN (C : Cc) (κ : Nat) (f : DEnv → (List PyData → Prop) → Prop) : TE := fun σ H Q => ∃ F ρ R, Rel C κ F σ H ρ ∧ f ρ R ∧ ∀ ds, R ds → ∀ a vs H', Ev C.b κ F H H' → H a = none → H' a = some (.lst vs) → DpAll C.b.K (hide H' (a :: F)) vs ds → Q (.ref a) H'
def tTs (C : Cc) (κ : Nat) (f : DT) : TT := fun σ H Q => ∃ F ρ R, Rel C κ F σ H ρ ∧ f ρ R ∧ ∀ b, R b → ∀ H', Ev C.b κ F H H' → Q b H'
def tAs (C : Cc) (κ : Nat) (f : DA) : TA := fun σ H Q => ∃ F ρ R, Rel C κ F σ H ρ ∧ f ρ R ∧ ∀ ds, R ds → ∀ vs H', Ev C.b κ F H H' → DpAll C.b.K (hide H' F) vs ds → Q vs H'
abbrev PD (X : Cx) (C : Cc) (κ : Nat) (e : Expr) (f : DE) : Prop := PE X e (tD C κ f)
abbrev PP (X : Cx) (C : Cc) (κ : Nat) (e : Expr) (f : DE) : Prop := PE X e (tP C κ f)
abbrev PN (X : Cx) (C : Cc) (κ : Nat) (e : Expr) (f : DEnv → (List PyData → Prop) → Prop) : Prop := PE X e (tN C κ f)
abbrev PDT (X : Cx) (C : Cc) (κ : Nat) (e : Expr) (f : DT) : Prop := PT X e (tTs C κ f)
abbrev PDW (X : Cx) (C : Cc) (κ : Nat) (e : Expr) (f : DT) : Prop := PW X e (tTs C κ f)
abbrev PDA (X : Cx) (C : Cc) (κ : Nat) (es : List Expr) (f : DA) : Prop := PA X es (tAs C κ f)
section
variable {X : Cx} {e : Expr} {es : List Expr} {st : Stmt} {sts : List Stmt}
theorem pe_mono {t t' : TE} (h : PE X e t) (m : ∀ σ H Q, t' σ H Q → t σ H Q) : PE X e t' := ⟨fun pins s σ H Q I w => h.run pins s σ H Q I (m σ H Q w)⟩
theorem pt_mono {t t' : TT} (h : PT X e t) (m : ∀ σ H Q, t' σ H Q → t σ H Q) : PT X e t' := ⟨fun pins s σ H Q I w => h.run pins s σ H Q I (m σ H Q w)⟩
theorem pw_mono {t t' : TT} (h : PW X e t) (m : ∀ σ H Q, t' σ H Q → t σ H Q) : PW X e t' := ⟨fun wh pins s σ H Q I w => h.run wh pins s σ H Q I (m σ H Q w)⟩
theorem pa_mono {t t' : TA} (h : PA X es t) (m : ∀ σ H Q, t' σ H Q → t σ H Q) : PA X es t' := ⟨fun pos pins s σ H Q I w => h.run pos pins s σ H Q I (m σ H Q w)⟩
theorem ps_mono {t t' : TS} (h : PS X st t) (m : ∀ D σ H, t' D σ H → t D σ H) : PS X st t' := ⟨fun pins s σ H D I w => h.run pins s σ H D I (m D σ H w)⟩
theorem pss_mono {t t' : TS} (h : PSs X sts t) (m : ∀ D σ H, t' D σ H → t D σ H) : PSs X sts t' := ⟨fun pins s σ H D I w => h.run pins s σ H D I (m D σ H w)⟩
end
section
variable {X : Cx} {C : Cc} {e a b c : Expr} {es : List Expr} {f fa fb fc : DE} {pos : Pos}
theorem PN.pd {κ : Nat} {f : DEnv → (List PyData → Prop) → Prop} (h : PN X C κ e f) : PD X C κ e (fun ρ R => f ρ fun ds => R (.list ds)) := pe_mono h fun σ H Q ⟨F, ρ, R, rel, hf, q⟩ =>
  ⟨F, ρ, _, rel, hf, fun ds hd a vs H' ev na ha dp => q _ hd _ H' ev (.lst (.inl (.inl (by rw [hide_out (new_out rel.hk na)]; exact ha))) ((sub_less fun b m => List.mem_cons_of_mem _ m).dps dp))⟩
theorem PD.pp {κ : Nat} (h : PD X C κ e f) : PP X C κ e f := pe_mono h fun σ H Q ⟨F, ρ, R, rel, hf, q⟩ => ⟨F, ρ, R, rel, hf, fun d hd v H' ev dp => q d hd v H' ev (.inl dp)⟩
theorem Pk.dp {B : Bc} {F : List Addr} {H : Hp} {v : V} {d : PyData} (h : Pk B F H v d) : Dp B.K H v d := by
  rcases h with h | ⟨a, vs, ds, rfl, rfl, _, _, h, r⟩
  · exact sub_hide.dp h
  · exact .lst (.inl (.inl h)) (sub_hide.dps r)
theorem Pk.ev {B : Bc} {κ : Nat} {F : List Addr} {H H' : Hp} {v : V} {d : PyData} (hk : Hk B F H) (ev : Ev B κ F H H') (h : Pk B F H v d) : Pk B F H' v d := by
  rcases h with h | ⟨a, vs, ds, x1, x2, x3, x4, x5, x6⟩
  · exact .inl (ev.dp hk h)
  · exact .inr ⟨a, vs, ds, x1, x2, x3, x4, ev.keep _ _ x5 (tab_no hk.tab x5 fun _ z => by cases z) x4, (ev.sub hk).dps x6⟩
theorem Pk.list {B : Bc} {F : List Addr} {H : Hp} {v : V} {ds : List PyData} (h : Pk B F H v (.list ds)) : ∃ a vs, v = .ref a ∧ SqL B.K H a vs ∧ DpAll B.K (hide H F) vs ds := by
  rcases h with h | ⟨a, vs, ds, x1, x2, x3, x4, x5, x6⟩
  · cases h with
    | lst h r => exact ⟨_, _, rfl, sub_hide.sql h, r⟩
  · cases x2
    exact ⟨a, vs, x1, .inl (.inl x5), x6⟩
theorem Pk.tup {B : Bc} {F : List Addr} {H : Hp} {v : V} {ds : List PyData} (h : Pk B F H v (.tuple ds)) : ∃ a vs, v = .ref a ∧ SqT B.K H a vs ∧ DpAll B.K (hide H F) vs ds := by
  rcases h with h | ⟨a, vs, ds, x1, x2, x3, x4, x5, x6⟩
  · cases h with
    | tup h r => exact ⟨_, _, rfl, sub_hide.sqt h, r⟩
  · cases x2
/-! ### what a datum is, with what follows -/
def onB (d : PyData) (k : Bool → Prop) : Prop := match d with
  | .bool b => k b
  | _ => False
def onI (d : PyData) (k : Int → Prop) : Prop := match d with
  | .int b => k b
  | _ => False
def onS (d : PyData) (k : Str → Prop) : Prop := match d with
  | .str b => k b
  | _ => False
def onT (d : PyData) (k : List PyData → Prop) : Prop := match d with
  | .tuple b => k b
  | _ => False
def onL (d : PyData) (k : List PyData → Prop) : Prop := match d with
  | .list b => k b
  | _ => False
theorem onB_ok {d : PyData} {k : Bool → Prop} (h : onB d k) : ∃ b, d = .bool b ∧ k b := by cases d <;> first | exact ⟨_, rfl, h⟩ | exact h.elim
theorem onI_ok {d : PyData} {k : Int → Prop} (h : onI d k) : ∃ b, d = .int b ∧ k b := by cases d <;> first | exact ⟨_, rfl, h⟩ | exact h.elim
theorem onS_ok {d : PyData} {k : Str → Prop} (h : onS d k) : ∃ b, d = .str b ∧ k b := by cases d <;> first | exact ⟨_, rfl, h⟩ | exact h.elim
theorem onT_ok {d : PyData} {k : List PyData → Prop} (h : onT d k) : ∃ b, d = .tuple b ∧ k b := by cases d <;> first | exact ⟨_, rfl, h⟩ | exact h.elim
theorem onL_ok {d : PyData} {k : List PyData → Prop} (h : onL d k) : ∃ b, d = .list b ∧ k b := by cases d <;> first | exact ⟨_, rfl, h⟩ | exact h.elim
def slotD (o : Option (Option SV)) (k : PyData → Prop) : Prop := match o with
  | some (some (.d d)) => k d
  | _ => False
def slotO (o : Option (Option SV)) (k : List PyData → Prop) : Prop := match o with
  | some (some (.own d)) => k d
  | _ => False
theorem slotD_ok {o : Option (Option SV)} {k : PyData → Prop} (h : slotD o k) : ∃ d, o = some (some (.d d)) ∧ k d := by
  rcases o with _ | _ | _ | _ | _ | _ | _ | _ <;> first | exact ⟨_, rfl, h⟩ | exact h.elim
theorem slotO_ok {o : Option (Option SV)} {k : List PyData → Prop} (h : slotO o k) : ∃ d, o = some (some (.own d)) ∧ k d := by
  rcases o with _ | _ | _ | _ | _ | _ | _ | _ <;> first | exact ⟨_, rfl, h⟩ | exact h.elim
/-! ### names, constants -/
def vD (i : Nat) : DE := fun ρ R => slotD ρ[i]? R
def slotP (o : Option (Option SV)) (k : PyData → Prop) : Prop := match o with
  | some (some (.d d)) => k d
  | some (some (.own d)) => k (.list d)
  | _ => False
theorem slotP_ok {o : Option (Option SV)} {k : PyData → Prop} (h : slotP o k) : (∃ d, o = some (some (.d d)) ∧ k d) ∨ ∃ ds, o = some (some (.own ds)) ∧ k (.list ds) := by
  rcases o with _ | _ | _ | _ | _ | _ | _ | _ <;> first | exact .inl ⟨_, rfl, h⟩ | exact .inr ⟨_, rfl, h⟩ | exact h.elim
def vP (i : Nat) : DE := fun ρ R => slotP ρ[i]? R
def cD (d : PyData) : DE := fun _ R => R d
theorem d_var {i : Nat} {e : Expr} (h : PE X e (tVar i)) : PD X C 0 e (vD i) := pe_mono h fun σ H Q ⟨F, ρ, R, rel, hf, q⟩ => by
  obtain ⟨d, hi, hd⟩ := slotD_ok hf
  obtain ⟨v, hv, ok⟩ := rel.slot i _ hi
  exact ⟨v, hv, q d hd v H (.refl rel.hk) ok⟩
theorem p_var {i : Nat} {e : Expr} (h : PE X e (tVar i)) : PP X C 0 e (vP i) := pe_mono h fun σ H Q ⟨F, ρ, R, rel, hi, q⟩ => by
  rcases slotP_ok hi with ⟨d, hi, hd⟩ | ⟨ds, hi, hd⟩
  · obtain ⟨v, hv, ok⟩ := rel.slot i _ hi
    exact ⟨v, hv, q d hd v H (.refl rel.hk) (.inl ok)⟩
  · obtain ⟨v, hv, a, vs, x1, x2, x3, x4, x5, x6⟩ := rel.slot i _ hi
    exact ⟨v, hv, q _ hd v H (.refl rel.hk) (.inr ⟨a, vs, ds, x1, rfl, x2, x4, x5, x6⟩)⟩
theorem d_c {v : V} {d : PyData} (h : PE X e (tC v)) (hd : ∀ H, Dp C.b.K H v d) : PD X C 0 e (cD d) := pe_mono h fun σ H Q ⟨F, ρ, R, rel, hf, q⟩ => q d hf v H (.refl rel.hk) (hd _)
theorem d_int {i j pos} : PD X C 0 (.Constant (.int i) j pos) (cD (.int i)) := d_c pe_int fun _ => .int i
theorem d_bl {i j pos} : PD X C 0 (.Constant (.bool i) j pos) (cD (.bool i)) := d_c pe_bl fun _ => .bl i
theorem d_non {j pos} : PD X C 0 (.Constant .none j pos) (cD .none) := d_c pe_non fun _ => .non
theorem d_str {i j pos} : PD X C 0 (.Constant (.str i) j pos) (cD (.str i)) := d_c pe_str fun _ => .str i
end
end DL

/-! Operators, comparisons, tests, places, slices over data. -/
namespace DL
open PySem PySem.Spec PyProof.Rows L2 GX
section
variable {K : PySem.W.Frag} {H : Hp}
mutual
theorem dp_plain : ∀ {v : V} {d : PyData}, Dp K H v d → d.plain = true
  | _, _, .non => rfl
  | _, _, .bl _ => rfl
  | _, _, .int _ => rfl
  | _, _, .str _ => rfl
  | _, _, .lst _ h => dps_plain h
  | _, _, .tup _ h => dps_plain h
theorem dps_plain : ∀ {vs : List V} {ds : List PyData}, DpAll K H vs ds → PyData.plainAll ds = true
  | _, _, .nil => rfl
  | _, _, .cons h t => by
    show (PyData.plain _ && PyData.plainAll _) = true
    rw [dp_plain h, dps_plain t]
    rfl
end
end
/-- two data in, under c, a datum out -/
def rC (K : PySem.W.Frag) (c : PyData → PyData → Prop) (g : PyData → PyData → Bool) : R2 := fun x y H Q => ∃ d e, Dp K H x d ∧ Dp K H y e ∧ c d e ∧ Q (.bl (g d e)) H
section
variable {X : Cx} {k : Nat}
def cMin (d e : PyData) : Prop := min d.depth e.depth ≤ 64
def cOrd (d e : PyData) : Prop := PySem.W.alike d e = true ∧ d ≠ .none ∧ min d.depth e.depth ≤ 64
theorem op_eqP (hr : Room k X.A) : OpR X (compareOp .Eq) (rC X.K cMin PyData.eqv) := by
  intro pins s σ H x y v u Q I rx ry ⟨d, e, hd, he, c, q⟩
  obtain ⟨as, r1⟩ := Dp.reads I d x v hd rx
  obtain ⟨bs, r2⟩ := Dp.reads I e y u he ry
  have := hr.un
  have c' : min d.depth e.depth ≤ 64 := c
  exact SeqAt.eq_plain r1 r2 (dp_plain hd) (dp_plain he) (by omega) ⟨.bl _, H, I, rfl, q⟩
theorem op_neP (hr : Room k X.A) : OpR X (compareOp .NotEq) (rC X.K cMin fun d e => !PyData.eqv d e) := by
  intro pins s σ H x y v u Q I rx ry ⟨d, e, hd, he, c, q⟩
  obtain ⟨as, r1⟩ := Dp.reads I d x v hd rx
  obtain ⟨bs, r2⟩ := Dp.reads I e y u he ry
  have := hr.un
  have c' : min d.depth e.depth ≤ 64 := c
  exact SeqAt.ne_plain r1 r2 (dp_plain hd) (dp_plain he) (by omega) ⟨.bl _, H, I, rfl, q⟩
theorem op_ltP (hr : Room k X.A) : OpR X (compareOp .Lt) (rC X.K cOrd PySem.W.dataLt) := by
  intro pins s σ H x y v u Q I rx ry ⟨d, e, hd, he, ⟨c1, c2, c3⟩, q⟩
  obtain ⟨as, r1⟩ := Dp.reads I d x v hd rx
  obtain ⟨bs, r2⟩ := Dp.reads I e y u he ry
  have := hr.un
  exact PySem.W.lt_data r1 r2 c1 c2 (by omega) ⟨.bl _, H, I, rfl, q⟩
theorem op_gtP (hr : Room k X.A) : OpR X (compareOp .Gt) (rC X.K cOrd fun d e => PySem.W.dataLt e d) := by
  intro pins s σ H x y v u Q I rx ry ⟨d, e, hd, he, ⟨c1, c2, c3⟩, q⟩
  obtain ⟨as, r1⟩ := Dp.reads I d x v hd rx
  obtain ⟨bs, r2⟩ := Dp.reads I e y u he ry
  have := hr.un
  exact PySem.W.gt_data r1 r2 c1 c2 (by omega) ⟨.bl _, H, I, rfl, q⟩
theorem op_leP (hr : Room k X.A) : OpR X (compareOp .LtE) (rC X.K cOrd fun d e => !PySem.W.dataLt e d) := by
  intro pins s σ H x y v u Q I rx ry ⟨d, e, hd, he, ⟨c1, c2, c3⟩, q⟩
  obtain ⟨as, r1⟩ := Dp.reads I d x v hd rx
  obtain ⟨bs, r2⟩ := Dp.reads I e y u he ry
  have := hr.un
  exact PySem.W.le_data r1 r2 c1 c2 (by omega) ⟨.bl _, H, I, rfl, q⟩
theorem op_geP (hr : Room k X.A) : OpR X (compareOp .GtE) (rC X.K cOrd fun d e => !PySem.W.dataLt d e) := by
  intro pins s σ H x y v u Q I rx ry ⟨d, e, hd, he, ⟨c1, c2, c3⟩, q⟩
  obtain ⟨as, r1⟩ := Dp.reads I d x v hd rx
  obtain ⟨bs, r2⟩ := Dp.reads I e y u he ry
  have := hr.un
  exact PySem.W.ge_data r1 r2 c1 c2 (by omega) ⟨.bl _, H, I, rfl, q⟩
/-- the items of a list or tuple -/
def itemsD : PyData → Option (List PyData)
  | .list xs => some xs
  | .tuple xs => some xs
  | _ => none
def cIn (d e : PyData) : Prop := ∃ xs, itemsD e = some xs ∧ d.depth ≤ 64
def inD (d e : PyData) : Bool := match itemsD e with
  | some xs => xs.any fun y => PyData.eqv y d
  | none => false
theorem op_inP (hr : Room k X.A) : OpR X (compareOp .In) (rC X.K cIn inD) := by
  intro pins s σ H x y v u Q I rx ry ⟨d, e, hd, he, ⟨xs, c1, c2⟩, q⟩
  obtain ⟨as, r1⟩ := Dp.reads I d x v hd rx
  obtain ⟨bs, r2⟩ := Dp.reads I e y u he ry
  have := hr.un
  cases e with
  | list ys => exact SeqAt.in_list_data r2 r1 (dp_plain he) (dp_plain hd) (by omega) ⟨.bl _, H, I, rfl, q⟩
  | tuple ys => exact SeqAt.in_tuple_data r2 r1 (dp_plain he) (dp_plain hd) (by omega) ⟨.bl _, H, I, rfl, q⟩
  | _ => cases c1
theorem op_notInP (hr : Room k X.A) : OpR X (compareOp .NotIn) (rC X.K cIn fun d e => !inD d e) := by
  intro pins s σ H x y v u Q I rx ry ⟨d, e, hd, he, ⟨xs, c1, c2⟩, q⟩
  obtain ⟨as, r1⟩ := Dp.reads I d x v hd rx
  obtain ⟨bs, r2⟩ := Dp.reads I e y u he ry
  have := hr.un
  cases e with
  | list ys => exact SeqAt.notIn_list_data r2 r1 (dp_plain he) (dp_plain hd) (by omega) ⟨.bl _, H, I, rfl, q⟩
  | tuple ys => exact SeqAt.notIn_tuple_data r2 r1 (dp_plain he) (dp_plain hd) (by omega) ⟨.bl _, H, I, rfl, q⟩
  | _ => cases c1
end
/-! ### two places -/
abbrev D2 := PyData → PyData → (PyData → Prop) → Prop
def OD (B : Bc) (r : R2) (o : D2) : Prop := ∀ (F : List Addr) (H : Hp) (x y : V) (d e : PyData) (R : PyData → Prop) (Q : VK), Hk B F H → Pk B F H x d → Pk B F H y e → o d e R → (∀ z, R z → ∀ v H', Ev B 0 F H H' → Dp B.K (hide H' F) v z → Q v H') → r x y H Q
def oD (o : D2) (fa fb : DE) : DE := fun ρ R => fa ρ fun d => fb ρ fun e => o d e R
section
variable {X : Cx} {C : Cc} {a b c : Expr} {fa fb fc : DE} {pos : Pos} {r r' : R2} {o o' : D2}
theorem oD_ok (od : OD C.b r o) {σ : L2.St} {H : Hp} {Q : VK} (h : tD C (κ1 + κ2) (oD o fa fb) σ H Q) : tOp r (tP C κ1 fa) (tP C κ2 fb) σ H Q := by
  obtain ⟨F, ρ, R, rel, hf, q⟩ := h
  refine ⟨F, ρ, _, rel.lel, hf, fun d hd x H1 e1 p1 => ⟨F, ρ, _, rel.ev e1, hd, fun e he y H2 e2 p2 => ?_⟩⟩
  exact od F H2 x y d e R Q e2.hk (p1.ev e1.hk e2) p2 he fun z hz v H' e3 p3 => q z hz v H' ((e1.trans e2).trans e3) p3
theorem d_op {op : Operator} (ho : OpR X (binaryOp op) r) (od : OD C.b r o) (ha : PP X C κ1 a fa) (hb : PP X C κ2 b fb) : PD X C (κ1 + κ2) (.BinOp a op b pos) (oD o fa fb) := pe_mono (pe_op ho ha hb) fun σ H Q h => oD_ok od h
theorem d_cmp {op : CmpOp} (ho : OpR X (compareOp op) r) (od : OD C.b r o) (ha : PP X C κ1 a fa) (hb : PP X C κ2 b fb) (hm : behindInMarks op b = false) : PD X C (κ1 + κ2) (.Compare a [op] [b] pos) (oD o fa fb) := pe_mono (pe_cmpR ho ha hb hm) fun σ H Q h => oD_ok od h
/-- a value's truth, it being a truth -/
def tr (f : DE) : DT := fun ρ R => f ρ fun d => onB d R
theorem tr_of {κ : Nat} {t : TE} (m : ∀ σ H Q, tD C κ fa σ H Q → t σ H Q) : ∀ σ H Q, tTs C κ (tr fa) σ H Q → tTest t σ H Q := fun σ H Q ⟨F, ρ, R, rel, hf, q⟩ =>
  m σ H _ ⟨F, ρ, _, rel, hf, fun d hd v H' ev dp => by obtain ⟨b, e, hb⟩ := onB_ok hd; subst e; cases dp; exact ⟨b, rfl, q b hb H' ev⟩⟩
theorem t_cmp {op : CmpOp} (ho : OpR X (compareOp op) r) (od : OD C.b r o) (ha : PP X C κ1 a fa) (hb : PP X C κ2 b fb) (hm : behindInMarks op b = false) : PDT X C (κ1 + κ2) (.Compare a [op] [b] pos) (tr (oD o fa fb)) :=
  pt_mono (pt_cmpR ho ha hb hm) (tr_of fun σ H Q h => oD_ok od h)
theorem t_val (ha : PD X C κ a fa) (he : ∀ whole, isTrue a X.env whole = (do let v ← whole; standAt a.pos; holding [v] (truthy v)) := by intro _; rfl) : PDT X C κ a (tr fa) :=
  pt_mono (pt_val ha he) fun σ H Q ⟨F, ρ, R, rel, hf, q⟩ => ⟨F, ρ, _, rel, hf, fun d hd v H' ev dp => by obtain ⟨b, e, hb⟩ := onB_ok hd; subst e; cases dp; exact ⟨b, rfl, q b hb H' ev⟩⟩
def chD (o o' : D2) (fa fb fc : DE) : DE := fun ρ R => fa ρ fun d => fb ρ fun e => o d e fun z => onB z fun k => if k = true then fc ρ fun w => o' e w R else R (.bool false)
theorem chD_ok (od : OD C.b r o) (od' : OD C.b r' o') {σ : L2.St} {H : Hp} {Q : VK} (h : tD C (κ1 + (κ2 + κ3)) (chD o o' fa fb fc) σ H Q) : tChain r r' (tP C κ1 fa) (tP C κ2 fb) (tP C κ3 fc) σ H Q := by
  obtain ⟨F, ρ, R, rel, hf, q⟩ := h
  refine ⟨F, ρ, _, rel.lel, hf, fun d hd x H1 e1 p1 => ⟨F, ρ, _, (rel.ev e1).lel, hd, fun e he y H2 e2 p2 => ?_⟩⟩
  refine od F H2 x y d e _ _ e2.hk (p1.ev e1.hk e2) p2 he fun z hz v H3 e3 p3 => ?_
  obtain ⟨k, e, hk⟩ := onB_ok hz
  subst e
  cases p3
  refine ⟨k, rfl, ?_⟩
  cases k with
  | false => exact q _ hk _ H3 (((e1.trans e2).trans e3).le (by omega)) (.bl false)
  | true =>
    refine ⟨F, ρ, _, ((rel.ev e1).ev e2).ev0 e3, hk, fun w hw u H4 e4 p4 => ?_⟩
    exact od' F H4 y u _ w R Q e4.hk ((p2.ev e2.hk e3).ev e3.hk e4) p4 hw fun z hz v H' e5 p5 => q z hz v H' (((((e1.trans e2).trans e3).trans e4).trans e5).le (by omega)) p5
theorem d_chain {op op' : CmpOp} (ho : OpR X (compareOp op) r) (od : OD C.b r o) (ho' : OpR X (compareOp op') r') (od' : OD C.b r' o') (ha : PP X C κ1 a fa) (hb : PP X C κ2 b fb) (hc : PP X C κ3 c fc) (hm : lastMarks [op, op'] [b, c] = false := by with_unfolding_all rfl) :
    PD X C (κ1 + (κ2 + κ3)) (.Compare a [op, op'] [b, c] pos) (chD o o' fa fb fc) := pe_mono (pe_chain ho ho' ha hb hc hm) fun σ H Q h => chD_ok od od' h
theorem t_chain {op op' : CmpOp} (ho : OpR X (compareOp op) r) (od : OD C.b r o) (ho' : OpR X (compareOp op') r') (od' : OD C.b r' o') (ha : PP X C κ1 a fa) (hb : PP X C κ2 b fb) (hc : PP X C κ3 c fc) (hm : lastMarks [op, op'] [b, c] = false := by with_unfolding_all rfl) :
    PDT X C (κ1 + (κ2 + κ3)) (.Compare a [op, op'] [b, c] pos) (tr (chD o o' fa fb fc)) := pt_mono (pt_chain ho ho' ha hb hc hm) (tr_of fun σ H Q h => chD_ok od od' h)
end
/-! ### and, or, not, if -/
section
variable {X : Cx} {C : Cc} {a b c : Expr} {rest : List Expr} {fa fb fc : DE} {ga gb gc : DT} {pos : Pos}
def andT (ga gb : DT) : DT := fun ρ R => ga ρ fun c => if c = true then gb ρ R else R false
def orT (ga gb : DT) : DT := fun ρ R => ga ρ fun c => if c = true then R true else gb ρ R
def notT (ga : DT) : DT := fun ρ R => ga ρ fun c => R (!c)
theorem w_and1 (ha : PDT X C κ a ga) : PDW X C κ (.BoolOp .And [a] pos) ga := pw_and1 ha
theorem w_or1 (ha : PDT X C κ a ga) : PDW X C κ (.BoolOp .Or [a] pos) ga := pw_or1 ha
theorem w_and (ha : PDT X C κ1 a ga) (hb : PDW X C κ2 (.BoolOp .And (b :: rest) pos) gb) : PDW X C (κ1 + κ2) (.BoolOp .And (a :: b :: rest) pos) (andT ga gb) := pw_mono (pw_and ha hb) fun σ H Q ⟨F, ρ, R, rel, hf, q⟩ =>
  ⟨F, ρ, _, rel.lel, hf, fun c hc H1 e1 => by
    cases c with
    | false => exact q false hc H1 (e1.le (Nat.le_add_right _ _))
    | true => exact ⟨F, ρ, R, rel.ev e1, hc, fun b hb H2 e2 => q b hb H2 (e1.trans e2)⟩⟩
theorem w_or (ha : PDT X C κ1 a ga) (hb : PDW X C κ2 (.BoolOp .Or (b :: rest) pos) gb) : PDW X C (κ1 + κ2) (.BoolOp .Or (a :: b :: rest) pos) (orT ga gb) := pw_mono (pw_or ha hb) fun σ H Q ⟨F, ρ, R, rel, hf, q⟩ =>
  ⟨F, ρ, _, rel.lel, hf, fun c hc H1 e1 => by
    cases c with
    | true => exact q true hc H1 (e1.le (Nat.le_add_right _ _))
    | false => exact ⟨F, ρ, R, rel.ev e1, hc, fun b hb H2 e2 => q b hb H2 (e1.trans e2)⟩⟩
theorem t_not (ha : PDT X C κ a ga) : PDT X C κ (.UnaryOp .Not a pos) (notT ga) := pt_mono (pt_not ha) fun σ H Q ⟨F, ρ, R, rel, hf, q⟩ => ⟨F, ρ, _, rel, hf, fun c hc H1 e1 => q _ hc H1 e1⟩
def andD (fa fb : DE) : DE := fun ρ R => fa ρ fun d => onB d fun c => if c = true then fb ρ R else R (.bool false)
def orD (fa fb : DE) : DE := fun ρ R => fa ρ fun d => onB d fun c => if c = true then R (.bool true) else fb ρ R
def notD (fa : DE) : DE := fun ρ R => fa ρ fun d => onB d fun c => R (.bool (!c))
theorem d_one {op} (h : PD X C κ a fa) : PD X C κ (.BoolOp op [a] pos) fa := pe_one h
theorem d_and (ha : PD X C κ1 a fa) (hb : PD X C κ2 (.BoolOp .And (b :: rest) pos) fb) : PD X C (κ1 + κ2) (.BoolOp .And (a :: b :: rest) pos) (andD fa fb) := pe_mono (pe_and ha hb) fun σ H Q ⟨F, ρ, R, rel, hf, q⟩ =>
  ⟨F, ρ, _, rel.lel, hf, fun d hd v H1 e1 p1 => by
    obtain ⟨c, e, hc⟩ := onB_ok hd
    subst e
    cases p1
    refine ⟨c, rfl, ?_⟩
    cases c with
    | false => exact q _ hc _ H1 (e1.le (Nat.le_add_right _ _)) (.bl false)
    | true => exact ⟨F, ρ, R, rel.ev e1, hc, fun d hd v H2 e2 p2 => q d hd v H2 (e1.trans e2) p2⟩⟩
theorem d_or (ha : PD X C κ1 a fa) (hb : PD X C κ2 (.BoolOp .Or (b :: rest) pos) fb) : PD X C (κ1 + κ2) (.BoolOp .Or (a :: b :: rest) pos) (orD fa fb) := pe_mono (pe_or ha hb) fun σ H Q ⟨F, ρ, R, rel, hf, q⟩ =>
  ⟨F, ρ, _, rel.lel, hf, fun d hd v H1 e1 p1 => by
    obtain ⟨c, e, hc⟩ := onB_ok hd
    subst e
    cases p1
    refine ⟨c, rfl, ?_⟩
    cases c with
    | true => exact q _ hc _ H1 (e1.le (Nat.le_add_right _ _)) (.bl true)
    | false => exact ⟨F, ρ, R, rel.ev e1, hc, fun d hd v H2 e2 p2 => q d hd v H2 (e1.trans e2) p2⟩⟩
theorem d_not (ha : PD X C κ a fa) : PD X C κ (.UnaryOp .Not a pos) (notD fa) := pe_mono (pe_not ha) fun σ H Q ⟨F, ρ, R, rel, hf, q⟩ =>
  ⟨F, ρ, _, rel, hf, fun d hd v H1 e1 p1 => by
    obtain ⟨c, e, hc⟩ := onB_ok hd
    subst e
    cases p1
    exact ⟨c, rfl, q _ hc _ H1 e1 (.bl _)⟩⟩
def ifD (g : DT) (fa fb : DE) : DE := fun ρ R => g ρ fun c => if c = true then fa ρ R else fb ρ R
theorem d_if (hc : PDT X C κ1 c gc) (ha : PD X C κ2 a fa) (hb : PD X C κ3 b fb) : PD X C (κ1 + (κ2 + κ3)) (.IfExp c a b pos) (ifD gc fa fb) := pe_mono (pe_ifExp hc ha hb) fun σ H Q ⟨F, ρ, R, rel, hf, q⟩ =>
  ⟨F, ρ, _, rel.lel, hf, fun c hc H1 e1 => by
    cases c with
    | true => exact ⟨F, ρ, R, (rel.ev e1).lel, hc, fun d hd v H2 e2 p2 => q d hd v H2 ((e1.trans e2).le (by omega)) p2⟩
    | false => exact ⟨F, ρ, R, (rel.ev e1).le (Nat.le_add_left _ _), hc, fun d hd v H2 e2 p2 => q d hd v H2 ((e1.trans e2).le (by omega)) p2⟩⟩
/-- any datum as a test -/
def truD (f : DE) : DT := fun ρ R => f ρ fun d => (∀ x, d = .str x → x.length ≤ sizeLine) ∧ R d.truthy
theorem t_tru (ha : PP X C κ a fa) (he : ∀ whole, isTrue a X.env whole = (do let v ← whole; standAt a.pos; holding [v] (truthy v)) := by intro _; rfl) (hK : C.b.K = X.K := by rfl) : PDT X C κ a (truD fa) :=
  pt_mono (pt_truth ha he) fun σ H Q ⟨F, ρ, R, rel, hf, q⟩ => ⟨F, ρ, _, rel, hf, fun d ⟨hs, hd⟩ v H' ev pk => by
    refine ⟨d.truthy, ?_, q _ hd H' ev⟩
    have dp := pk.dp
    rw [hK] at dp
    cases dp with
    | non => rfl
    | bl b => rfl
    | int i => rfl
    | str x => exact ⟨hs x rfl, rfl⟩
    | lst h r =>
      refine .inl ⟨_, h, ?_⟩
      cases r <;> rfl
    | tup h r =>
      refine .inr (.inl ⟨_, h, ?_⟩)
      cases r <;> rfl⟩
end
/-! ### what the operators give -/
section
variable {X : Cx} {C : Cc} {k : Nat} {r r' : R2} {o o' : D2}
def cmpO (c : PyData → PyData → Prop) (g : PyData → PyData → Bool) : D2 := fun d e R => c d e ∧ R (.bool (g d e))
theorem od_cmp {B : Bc} {c : PyData → PyData → Prop} {g : PyData → PyData → Bool} : OD B (rC B.K c g) (cmpO c g) := fun F H x y d e R Q hk px py ⟨hc, hR⟩ q => ⟨d, e, px.dp, py.dp, hc, q _ hR _ H (.refl hk) (.bl _)⟩
def orO (o o' : D2) : D2 := fun d e R => o d e R ∨ o' d e R
theorem OD.or {B : Bc} (h : OD B r o) (h' : OD B r' o') : OD B (fun x y H Q => r x y H Q ∨ r' x y H Q) (orO o o') := fun F H x y d e R Q hk px py ho q => ho.elim (fun z => .inl (h F H x y d e R Q hk px py z q)) fun z => .inr (h' F H x y d e R Q hk px py z q)
def intO (c : Int → Int → Prop) (g : Int → Int → Int) : D2 := fun d e R => onI d fun i => onI e fun j => c i j ∧ R (.int (g i j))
def int0 (g : Int → Int → Int) : D2 := fun d e R => onI d fun i => onI e fun j => R (.int (g i j))
theorem pk_int {B : Bc} {F : List Addr} {H : Hp} {v : V} {i : Int} (h : Pk B F H v (.int i)) : v = .int i := by
  rcases h with h | ⟨a, vs, ds, x1, x2, _⟩
  · cases h
    rfl
  · cases x2
theorem pk_str {B : Bc} {F : List Addr} {H : Hp} {v : V} {i : Str} (h : Pk B F H v (.str i)) : v = .str i := by
  rcases h with h | ⟨a, vs, ds, x1, x2, _⟩
  · cases h
    rfl
  · cases x2
theorem pk_bl {B : Bc} {F : List Addr} {H : Hp} {v : V} {i : Bool} (h : Pk B F H v (.bool i)) : v = .bl i := by
  rcases h with h | ⟨a, vs, ds, x1, x2, _⟩
  · cases h
    rfl
  · cases x2
theorem pk_non {B : Bc} {F : List Addr} {H : Hp} {v : V} (h : Pk B F H v .none) : v = .non := by
  rcases h with h | ⟨a, vs, ds, x1, x2, _⟩
  · cases h
    rfl
  · cases x2
theorem od_int {B : Bc} {c : Int → Int → Prop} {g : Int → Int → Int} : OD B (rI c fun i j => .int (g i j)) (intO c g) := fun F H x y d e R Q hk px py ho q => by
  obtain ⟨i, e1, ho⟩ := onI_ok ho
  obtain ⟨j, e2, hc, hR⟩ := onI_ok ho
  subst e1 e2
  exact ⟨i, j, pk_int px, pk_int py, hc, q _ hR _ H (.refl hk) (.int _)⟩
theorem od_int0 {B : Bc} {g : Int → Int → Int} : OD B (rI0 fun i j => .int (g i j)) (int0 g) := fun F H x y d e R Q hk px py ho q => by
  obtain ⟨i, e1, ho⟩ := onI_ok ho
  obtain ⟨j, e2, hR⟩ := onI_ok ho
  subst e1 e2
  exact ⟨i, j, pk_int px, pk_int py, q _ hR _ H (.refl hk) (.int _)⟩
/-- int compared: of whole numbers alone, any size -/
def icmpO (g : Int → Int → Bool) : D2 := fun d e R => ∃ i j, d = .int i ∧ e = .int j ∧ R (.bool (g i j))
theorem od_icmp {B : Bc} {g : Int → Int → Bool} : OD B (rI0 fun i j => .bl (g i j)) (icmpO g) := fun F H x y d e R Q hk px py ⟨i, j, e1, e2, hR⟩ q => by
  subst e1 e2
  exact ⟨i, j, pk_int px, pk_int py, q _ hR _ H (.refl hk) (.bl _)⟩
def strCatO : D2 := fun d e R => ∃ i j, d = .str i ∧ e = .str j ∧ i.length + j.length ≤ sizeLine ∧ R (.str (i ++ j))
theorem od_strCat {B : Bc} : OD B (fun x y H Q => ∃ i j, x = .str i ∧ y = .str j ∧ i.length + j.length ≤ sizeLine ∧ Q (.str (i ++ j)) H) strCatO := fun F H x y d e R Q hk px py ⟨i, j, e1, e2, hc, hR⟩ q => by
  subst e1 e2
  exact ⟨i, j, pk_str px, pk_str py, hc, q _ hR _ H (.refl hk) (.str _)⟩
theorem new_tup {B : Bc} {F : List Addr} {H : Hp} {p : Addr} {vs : List V} {ds : List PyData} (hk : Hk B F H) (n : H p = none) (h : DpAll B.K (hide H F) vs ds) : Dp B.K (hide (upd H p (.tup vs)) F) (.ref p) (.tuple ds) :=
  .tup (.inl (.inl (by rw [hide_out (new_out hk n)]; exact upd_same))) (((Ev.new (o := .tup vs) hk n fun _ z => by cases z).sub hk).dps h)
theorem new_lst {B : Bc} {F : List Addr} {H : Hp} {p : Addr} {vs : List V} {ds : List PyData} (hk : Hk B F H) (n : H p = none) (h : DpAll B.K (hide H F) vs ds) : Dp B.K (hide (upd H p (.lst vs)) F) (.ref p) (.list ds) :=
  .lst (.inl (.inl (by rw [hide_out (new_out hk n)]; exact upd_same))) (((Ev.new (o := .lst vs) hk n fun _ z => by cases z).sub hk).dps h)
theorem ev_tup {B : Bc} {F : List Addr} {H : Hp} {p : Addr} {vs : List V} (hk : Hk B F H) (n : H p = none) : Ev B 0 F H (upd H p (.tup vs)) := Ev.new hk n fun _ z => by cases z
theorem ev_lst {B : Bc} {F : List Addr} {H : Hp} {p : Addr} {vs : List V} (hk : Hk B F H) (n : H p = none) : Ev B 0 F H (upd H p (.lst vs)) := Ev.new hk n fun _ z => by cases z
def tupCatO : D2 := fun d e R => ∃ xs ys, d = .tuple xs ∧ e = .tuple ys ∧ xs.length + ys.length ≤ sizeLine ∧ R (.tuple (xs ++ ys))
/-- a tuple handed on as it is -/
theorem Pk.tupDp {B : Bc} {F : List Addr} {H : Hp} {v : V} {ds : List PyData} (h : Pk B F H v (.tuple ds)) : Dp B.K (hide H F) v (.tuple ds) := by
  rcases h with h | ⟨a, vs, ds, x1, x2, _⟩
  · exact h
  · cases x2
theorem od_tupCat {B : Bc} : OD B (rCatA B.K) tupCatO := fun F H x y d e R Q hk px py ⟨xs, ys, e1, e2, hc, hR⟩ q => by
  subst e1 e2
  have dx := px.tupDp
  have dy := py.tupDp
  obtain ⟨a, vs, rfl, sx, ax⟩ := px.tup
  obtain ⟨b, ws, rfl, sy, ay⟩ := py.tup
  refine ⟨a, b, vs, ws, rfl, rfl, sx, sy, by rw [dps_len ax, dps_len ay]; exact hc, fun z => ?_, fun _ z => ?_, fun _ _ p hp => ?_⟩
  · subst z
    cases ax
    exact q _ hR _ H (.refl hk) dy
  · subst z
    cases ay
    rw [List.append_nil] at hR
    exact q _ hR _ H (.refl hk) dx
  · exact q _ hR _ _ (ev_tup hk hp) (new_tup hk hp (dps_cat ax ay))
/-- list + list, whatever list it is -/
def rCatL (K : PySem.W.Frag) : R2 := fun x y H Q => ∃ l b xs zs, x = .ref l ∧ y = .ref b ∧ SqL K H l xs ∧ SqL K H b zs ∧ xs.length + zs.length ≤ sizeLine ∧ ∀ p, H p = none → Q (.ref p) (upd H p (.lst (xs ++ zs)))
end
end DL

/-! More operators, places, slices, displays, built-in functions over data. -/
namespace DL
open PySem PySem.Spec PyProof.Rows L2 GX
section
variable {X : Cx}
theorem op_catL : OpR X (binaryOp .Add) (rCatL X.K) := by
  intro pins s σ H x y v u Q I rx ry h
  obtain ⟨l, b, xs, zs, rfl, rfl, hx, hy, hz, q⟩ := h
  cases rx
  cases ry
  obtain ⟨its, r, pl, z1⟩ := I.list hx
  obtain ⟨its2, r2, pl2, z2⟩ := I.list hy
  obtain ⟨⟨cls, dd, data, sl⟩, n, ho, hc, hdd, hd⟩ := pl
  obtain ⟨⟨cls2, dd2, data2, sl2⟩, n2, ho2, hc2, hdd2, hd2⟩ := pl2
  simp only at hc hd hc2 hd2
  subst hc hd hc2 hd2
  have e : its.toArray ++ its2.toArray = (its ++ its2).toArray := by simp
  have l1 := r.length
  have l2 := r2.length
  refine concat_meets ⟨_, ho, rfl⟩ ⟨_, ho2, rfl⟩ noFill_list_add seq_list_add PySem.F.slot_list_add PySem.F.entry_list_add (PySem.F.args_list_add_2 _ _) (list_addW l b its.toArray its2.toArray n n2 dd dd2 sl sl2 (by simp only [List.size_toArray]; omega)) ⟨ho, ho2, ?_⟩
  rw [e]
  exact ⟨.ref _, _, I.lnew (t' := s.toks) (r.append r2) (by rw [List.length_append]; omega), rfl, q _ I.fresh⟩
theorem tuple_mul1 (l : Addr) (items : Array Value) (n : Nat) (dd : Option Addr) (sl : Array (Option Value)) (u : Tok) :
    Meets (Builtin.«tuple.__mul__» ⟨[.ref l, .int 1 u], []⟩) (fun _ R s => s.heap.get? l = some { cls := .type "tuple", dict := dd, data := .seq items n, slots := sl } ∧ R (.ok (.ret (Value.ref l))) s) :=
  .of_wp fun prog w A R s h => by
    obtain ⟨hp, g, d, tk, os⟩ := s
    obtain ⟨hl, h⟩ := h
    have f1 := AutoSeq1.idx_int
    wp_walk using wpAny_loadPart' hl
    exact ⟨_, rfl, h⟩
theorem tuple_mul0 (l : Addr) (items : Array Value) (n : Nat) (dd : Option Addr) (sl : Array (Option Value)) (u : Tok) (c1 : (items.isEmpty || (0 : Int) == 1) = false) :
    Meets (Builtin.«tuple.__mul__» ⟨[.ref l, .int 0 u], []⟩) (fun _ R s => s.heap.get? l = some { cls := .type "tuple", dict := dd, data := .seq items n, slots := sl } ∧
      R (.ok (.ret (Value.ref s.heap.objs.size))) { s with heap := s.heap.push { cls := Value.type "tuple", data := Data.seq #[] }, toks := s.toks }) :=
  .of_wp fun prog w A R s h => by
    obtain ⟨hp, g, d, tk, os⟩ := s
    obtain ⟨hl, h⟩ := h
    have f1 := AutoSeq1.idx_int
    wp_walk using wpAny_loadPart' hl
    repeat (first
      | (refine wpAny_ite_false (decide_eq_false (by rw [c1]; exact Bool.false_ne_true)) ?_; wp_walk using wpAny_loadPart' hl))
    exact ⟨_, rfl, h⟩
/-- t * k, 0 ≤ k, t not void -/
def rRepA (K : PySem.W.Frag) : R2 := fun x y H Q => ∃ l k xs, x = .ref l ∧ y = .int k ∧ SqT K H l xs ∧ xs ≠ [] ∧ 0 ≤ k ∧ k ≤ 1000 ∧ xs.length ≤ 1000 ∧ (k = 1 → Q (.ref l) H) ∧ (k ≠ 1 → ∀ p, H p = none → Q (.ref p) (upd H p (.tup (List.replicate k.toNat xs).flatten)))
theorem op_repA : OpR X (binaryOp .Mult) (rRepA X.K) := by
  intro pins s σ H x y v u Q I rx ry h
  obtain ⟨l, k, xs, rfl, rfl, hT, hne, h1, h2, hz, q1, q2⟩ := h
  by_cases k2 : 2 ≤ k
  · exact op_repT pins s σ H _ _ v u Q I rx ry ⟨l, k, xs, rfl, rfl, hT, hne, k2, h2, hz, q2 (by omega)⟩
  · cases rx
    obtain ⟨t, rfl⟩ := ry
    obtain ⟨its, r, ⟨⟨cls, dd, data, sl⟩, ho, hc, n, hd⟩, hs⟩ := I.tuple hT
    simp only at hc hd
    subst hc hd
    by_cases k1 : k = 1
    · subst k1
      exact wpAny_binaryOp_repeat_ref (T := "tuple") (U := "int") (by decide) ⟨_, ho, rfl⟩ (fun s' => typeIs_int s' 1 t) noFill_tuple_mul F.fills_int_mul F.slot_int_rmul repeat_tuple F.slot_int_index.lookup
        (call_meets F.slot_int_rmul (typeIs_int s 1 t) F.entry_int_rmul (F.args_int_rmul_2 _ _) (int_rmul_tuple 1 t l its.toArray n dd sl)
          ⟨ho, rfl, ⟨_, ho, rfl⟩, call_meets F.slot_tuple_mul ⟨_, ho, rfl⟩ F.entry_tuple_mul (F.args_tuple_mul_2 _ _) (tuple_mul1 l its.toArray n dd sl t) ⟨ho, ⟨.ref l, H, I, rfl, q1 rfl⟩⟩⟩)
    · obtain rfl : k = 0 := by omega
      have hle : its.length = xs.length := r.length.symm
      have hi : its.toArray.isEmpty = false := by
        cases its with
        | nil => exact absurd (List.eq_nil_of_length_eq_zero hle.symm) hne
        | cons a b => rfl
      refine wpAny_binaryOp_repeat_ref (T := "tuple") (U := "int") (by decide) ⟨_, ho, rfl⟩ (fun s' => typeIs_int s' 0 t) noFill_tuple_mul F.fills_int_mul F.slot_int_rmul repeat_tuple F.slot_int_index.lookup
        (call_meets F.slot_int_rmul (typeIs_int s 0 t) F.entry_int_rmul (F.args_int_rmul_2 _ _) (int_rmul_tuple 0 t l its.toArray n dd sl)
          ⟨ho, rfl, ⟨_, ho, rfl⟩, call_meets F.slot_tuple_mul ⟨_, ho, rfl⟩ F.entry_tuple_mul (F.args_tuple_mul_2 _ _) (tuple_mul0 l its.toArray n dd sl t (by rw [hi]; rfl)) ⟨ho, ?_⟩⟩)
      exact ⟨.ref s.heap.objs.size, _, I.laid (t' := s.toks) (o := .tup []) (fun b ob q => Heap.get?_push_of_some _ q) (Nat.le_refl _) ⟨Nat.zero_le _, [], .nil, IsTup.new _ _⟩, rfl, q2 (by decide) _ (I.hok.fresh (Nat.le_refl _))⟩
end
section
variable {K : PySem.W.Frag} {H : Hp}
theorem dps_rep {xs : List V} {ds : List PyData} (h : DpAll K H xs ds) : ∀ n : Nat, DpAll K H (List.replicate n xs).flatten (List.replicate n ds).flatten
  | 0 => .nil
  | n + 1 => by
    rw [List.replicate_succ, List.replicate_succ, List.flatten_cons, List.flatten_cons]
    exact dps_cat h (dps_rep h n)
theorem dps_take : ∀ {xs : List V} {ds : List PyData} (n : Nat), DpAll K H xs ds → DpAll K H (xs.take n) (ds.take n)
  | _, _, 0, _ => .nil
  | _, _, _ + 1, .nil => .nil
  | _, _, n + 1, .cons r t => .cons r (dps_take n t)
theorem dps_drop : ∀ {xs : List V} {ds : List PyData} (n : Nat), DpAll K H xs ds → DpAll K H (xs.drop n) (ds.drop n)
  | _, _, 0, r => r
  | _, _, _ + 1, .nil => .nil
  | _, _, n + 1, .cons _ t => dps_drop n t
theorem dps_rev : ∀ {xs : List V} {ds : List PyData}, DpAll K H xs ds → DpAll K H xs.reverse ds.reverse
  | _, _, .nil => .nil
  | _, _, .cons r t => by
    rw [List.reverse_cons, List.reverse_cons]
    exact dps_cat (dps_rev t) (.cons r .nil)
theorem dps_at : ∀ {xs : List V} {ds : List PyData} {i : Nat} {d : PyData}, DpAll K H xs ds → ds[i]? = some d → ∃ x, xs[i]? = some x ∧ Dp K H x d
  | _, _, _, _, .nil, e => by simp at e
  | _, _, 0, _, .cons r _, e => by simp at e; subst e; exact ⟨_, rfl, r⟩
  | _, _, i + 1, d, .cons _ t, e => by
    obtain ⟨x, h1, h2⟩ := dps_at (i := i) (d := d) t (by simpa using e)
    exact ⟨x, by simpa using h1, h2⟩
end
/-- the items of ds[lo:hi] -/
def cutD (ds : List PyData) (lo hi : Option Int) : List PyData := (ds.drop (HT.sIx ds.length 0 lo)).take (HT.sIx ds.length ds.length hi - HT.sIx ds.length 0 lo)
section
variable {X : Cx} {C : Cc}
theorem dps_cut {K : PySem.W.Frag} {H : Hp} {xs : List V} {ds : List PyData} (lo hi : Option Int) (h : DpAll K H xs ds) : DpAll K H (cutV xs lo hi) (cutD ds lo hi) := by
  unfold cutV cutD
  rw [dps_len h]
  exact dps_take _ (dps_drop _ h)
def lstCatO : D2 := fun d e R => ∃ xs ys, d = .list xs ∧ e = .list ys ∧ xs.length + ys.length ≤ sizeLine ∧ R (.list (xs ++ ys))
theorem od_lstCat {B : Bc} : OD B (rCatL B.K) lstCatO := fun F H x y d e R Q hk px py ⟨xs, ys, e1, e2, hc, hR⟩ q => by
  subst e1 e2
  obtain ⟨a, vs, rfl, sx, ax⟩ := px.list
  obtain ⟨b, ws, rfl, sy, ay⟩ := py.list
  exact ⟨a, b, vs, ws, rfl, rfl, sx, sy, by rw [dps_len ax, dps_len ay]; exact hc, fun p hp => q _ hR _ _ (ev_lst hk hp) (new_lst hk hp (dps_cat ax ay))⟩
def tupRepO : D2 := fun d e R => ∃ xs k, d = .tuple xs ∧ e = .int k ∧ xs ≠ [] ∧ 0 ≤ k ∧ k ≤ 1000 ∧ xs.length ≤ 1000 ∧ R (.tuple (List.replicate k.toNat xs).flatten)
theorem od_tupRep {B : Bc} : OD B (rRepA B.K) tupRepO := fun F H x y d e R Q hk px py ⟨xs, k, e1, e2, hn, h0, h1, hl, hR⟩ q => by
  subst e1 e2
  have dx := px.tupDp
  obtain ⟨a, vs, rfl, sx, ax⟩ := px.tup
  have len := dps_len ax
  refine ⟨a, k, vs, rfl, pk_int py, sx, fun z => ?_, h0, h1, by omega, fun z => ?_, fun _ p hp => q _ hR _ _ (ev_tup hk hp) (new_tup hk hp (dps_rep ax _))⟩
  · subst z
    cases ax
    exact hn rfl
  · subst z
    have e1 : (List.replicate (1 : Int).toNat xs).flatten = xs := by show xs ++ [] = xs; rw [List.append_nil]
    rw [e1] at hR
    exact q _ hR _ H (.refl hk) dx
/-! the operators of the text -/
def addO : D2 := fun d e R => match d, e with
  | .int i, .int j => R (.int (i + j))
  | .str a, .str b => a.length + b.length ≤ sizeLine ∧ R (.str (a ++ b))
  | .tuple xs, .tuple ys => xs.length + ys.length ≤ sizeLine ∧ R (.tuple (xs ++ ys))
  | .list xs, .list ys => xs.length + ys.length ≤ sizeLine ∧ R (.list (xs ++ ys))
  | _, _ => False
theorem add_in {d e : PyData} {R : PyData → Prop} (h : addO d e R) : orO (int0 fun i j => i + j) (orO strCatO (orO tupCatO lstCatO)) d e R := by
  cases d <;> cases e <;> first | exact h.elim | exact .inl h | exact .inr (.inl ⟨_, _, rfl, rfl, h.1, h.2⟩) | exact .inr (.inr (.inl ⟨_, _, rfl, rfl, h.1, h.2⟩)) | exact .inr (.inr (.inr ⟨_, _, rfl, rfl, h.1, h.2⟩))
def mulO : D2 := fun d e R => match d, e with
  | .int i, .int j => CMul i j ∧ R (.int (i * j))
  | .tuple xs, .int k => xs ≠ [] ∧ 0 ≤ k ∧ k ≤ 1000 ∧ xs.length ≤ 1000 ∧ R (.tuple (List.replicate k.toNat xs).flatten)
  | _, _ => False
theorem mul_in {d e : PyData} {R : PyData → Prop} (h : mulO d e R) : orO (intO CMul fun i j => i * j) tupRepO d e R := by
  cases d <;> cases e <;> first | exact h.elim | exact .inl h | exact .inr ⟨_, _, rfl, rfl, h⟩
theorem OD.pre {B : Bc} {r : R2} {o o' : D2} (h : OD B r o) (p : ∀ {d e R}, o' d e R → o d e R) : OD B r o' := fun F H x y d e R Q hk px py ho q => h F H x y d e R Q hk px py (p ho) q
def isNoO (neg : Bool) : D2 := fun d e R => e = .none ∧ R (.bool (match d with | .none => !neg | _ => neg))
theorem od_isN {B : Bc} : OD B (fun x y H Q => y = .non ∧ Q (.bl (decide (x = .non))) H) (isNoO false) := fun F H x y d e R Q hk px py ⟨e1, hR⟩ q => by
  subst e1
  refine ⟨pk_non py, ?_⟩
  have z := q _ hR _ H (.refl hk) (.bl _)
  have dp := px.dp
  cases dp <;> exact z
theorem od_notN {B : Bc} : OD B (fun x y H Q => y = .non ∧ Q (.bl (!decide (x = .non))) H) (isNoO true) := fun F H x y d e R Q hk px py ⟨e1, hR⟩ q => by
  subst e1
  refine ⟨pk_non py, ?_⟩
  have z := q _ hR _ H (.refl hk) (.bl _)
  have dp := px.dp
  cases dp <;> exact z
/-- a sign in a text -/
def sgnO (neg : Bool) : D2 := fun d e R => ∃ (c : Nat) (z : Str), d = .str ⟨#[c]⟩ ∧ e = .str z ∧ R (.bool (if neg then !decide (c ∈ z.cps.toList) else decide (c ∈ z.cps.toList)))
theorem od_sgn {B : Bc} : OD B (fun x y H Q => ∃ (c : Nat) (z : Str), x = .str ⟨#[c]⟩ ∧ y = .str z ∧ Q (.bl (decide (c ∈ z.cps.toList))) H) (sgnO false) := fun F H x y d e R Q hk px py ⟨c, z, e1, e2, hR⟩ q => by
  subst e1 e2
  exact ⟨c, z, pk_str px, pk_str py, q _ hR _ H (.refl hk) (.bl _)⟩
theorem od_nsgn {B : Bc} : OD B (fun x y H Q => ∃ (c : Nat) (z : Str), x = .str ⟨#[c]⟩ ∧ y = .str z ∧ Q (.bl (!decide (c ∈ z.cps.toList))) H) (sgnO true) := fun F H x y d e R Q hk px py ⟨c, z, e1, e2, hR⟩ q => by
  subst e1 e2
  exact ⟨c, z, pk_str px, pk_str py, q _ hR _ H (.refl hk) (.bl _)⟩
end
section
variable {X : Cx} {C : Cc} {a b c e : Expr} {es : List Expr} {fa fb fc f : DE} {pos p2 : Pos} {k : Nat}
theorem d_add (ha : PP X C κ1 a fa) (hb : PP X C κ2 b fb) (hK : C.b.K = X.K := by rfl) : PD X C (κ1 + κ2) (.BinOp a .Add b pos) (oD addO fa fb) := by
  refine d_op (op_add.or (op_add_str.or (op_catA.or op_catL))) ?_ ha hb
  rw [← hK]
  exact (od_int0.or (od_strCat.or (od_tupCat.or od_lstCat))).pre add_in
theorem d_sub (ha : PP X C κ1 a fa) (hb : PP X C κ2 b fb) : PD X C (κ1 + κ2) (.BinOp a .Sub b pos) (oD (int0 fun i j => i - j) fa fb) := d_op op_sub od_int0 ha hb
theorem d_mul (ha : PP X C κ1 a fa) (hb : PP X C κ2 b fb) (hK : C.b.K = X.K := by rfl) : PD X C (κ1 + κ2) (.BinOp a .Mult b pos) (oD mulO fa fb) := by
  refine d_op (op_mul.or op_repA) ?_ ha hb
  rw [← hK]
  exact (od_int.or od_tupRep).pre mul_in
theorem d_fdiv (ha : PP X C κ1 a fa) (hb : PP X C κ2 b fb) : PD X C (κ1 + κ2) (.BinOp a .FloorDiv b pos) (oD (intO CDiv fun i j => i / j) fa fb) := d_op op_fdiv od_int ha hb
theorem d_mod (ha : PP X C κ1 a fa) (hb : PP X C κ2 b fb) : PD X C (κ1 + κ2) (.BinOp a .Mod b pos) (oD (intO (fun _ j => 0 < j) fun i j => i % j) fa fb) := d_op op_mod od_int ha hb
theorem d_pow (ha : PP X C κ1 a fa) (hb : PP X C κ2 b fb) : PD X C (κ1 + κ2) (.BinOp a .Pow b pos) (oD (intO CPow fun i j => i ^ j.toNat) fa fb) := d_op op_pow od_int ha hb
def negD (fa : DE) : DE := fun ρ R => fa ρ fun d => onI d fun i => R (.int (-i))
theorem d_neg (ha : PP X C κ a fa) : PD X C κ (.UnaryOp .USub a pos) (negD fa) := pe_mono (pe_un un_neg ha) fun σ H Q ⟨F, ρ, R, rel, hf, q⟩ =>
  ⟨F, ρ, _, rel, hf, fun d hd v H1 e1 p1 => by
    obtain ⟨i, e, hi⟩ := onI_ok hd
    subst e
    exact ⟨i, pk_int p1, q _ hi _ H1 e1 (.int _)⟩⟩
/-! ### places -/
def atD (ds : List PyData) (i : Int) : Option PyData := (ixN ds.length i).bind fun j => ds[j]?
def onO {α : Type} (o : Option α) (k : α → Prop) : Prop := match o with
  | some x => k x
  | none => False
theorem onO_ok {α : Type} {o : Option α} {k : α → Prop} (h : onO o k) : ∃ x, o = some x ∧ k x := by cases o <;> first | exact ⟨_, rfl, h⟩ | exact h.elim
def ixO : D2 := fun d e R => onI e fun i => match d with
  | .list ds => onO (atI ds i) R
  | .tuple ds => onO (atI ds i) R
  | .str x => x.length ≤ sizeLine ∧ onO (atI x.cps.toList i) fun c => R (.str ⟨#[c]⟩)
  | _ => False
theorem dps_atI {K : PySem.W.Frag} {H : Hp} {xs : List V} {ds : List PyData} {i : Int} {d : PyData} (h : DpAll K H xs ds) (e : atI ds i = some d) : ∃ x, atI xs i = some x ∧ Dp K H x d := by
  unfold atI at e ⊢
  rw [dps_len h]
  revert e
  cases z : ixN ds.length i with
  | none => intro e; exact absurd e (by simp)
  | some j =>
    intro e
    exact dps_at h e
theorem od_ix {B : Bc} : OD B (rIx B.K) ixO := fun F H x y d e R Q hk px py ho q => by
  obtain ⟨i, e1, hR⟩ := onI_ok ho
  subst e1
  have hy := pk_int py
  subst hy
  cases d with
  | list ds =>
    obtain ⟨z, hz, hR⟩ := onO_ok hR
    obtain ⟨a, vs, rfl, sx, ax⟩ := px.list
    obtain ⟨v, hv, dv⟩ := dps_atI ax hz
    exact .inl ⟨a, vs, i, v, rfl, rfl, sx, hv, q _ hR _ H (.refl hk) dv⟩
  | tuple ds =>
    obtain ⟨z, hz, hR⟩ := onO_ok hR
    obtain ⟨a, vs, rfl, sx, ax⟩ := px.tup
    obtain ⟨v, hv, dv⟩ := dps_atI ax hz
    exact .inr (.inl ⟨a, vs, i, v, rfl, rfl, sx, hv, q _ hR _ H (.refl hk) dv⟩)
  | str z =>
    obtain ⟨hl, hR⟩ := hR
    obtain ⟨c, hc, hR⟩ := onO_ok hR
    exact .inr (.inr ⟨z, i, c, pk_str px, rfl, hl, hc, q _ hR _ H (.refl hk) (.str _)⟩)
  | _ => exact hR.elim
theorem d_ix (ha : PP X C κ1 a fa) (hb : PP X C κ2 b fb) (hs : PlainIx b) (hK : C.b.K = X.K := by rfl) : PD X C (κ1 + κ2) (.Subscript a b pos) (oD ixO fa fb) := pe_mono (pe_ix ix_seq ha hb hs) fun σ H Q h => oD_ok (hK ▸ od_ix) h
/-! ### slices -/
abbrev DO := DEnv → (Option Int → Prop) → Prop
def tOs (C : Cc) (κ : Nat) (f : DO) : TO := fun σ H Q => ∃ F ρ R, Rel C κ F σ H ρ ∧ f ρ R ∧ ∀ i, R i → ∀ H', Ev C.b κ F H H' → Q i H'
abbrev PDO (X : Cx) (C : Cc) (κ : Nat) (e : Option Expr) (f : DO) : Prop := PO X e (tOs C κ f)
def noO : DO := fun _ R => R none
def someO (f : DE) : DO := fun ρ R => f ρ fun d => onI d fun i => R (some i)
theorem po_mono {e : Option Expr} {t t' : TO} (h : PO X e t) (m : ∀ σ H Q, t' σ H Q → t σ H Q) : PO X e t' := ⟨fun pins s σ H Q I w => h.run pins s σ H Q I (m σ H Q w)⟩
theorem o_none : PDO X C 0 none noO := po_mono po_none fun σ H Q ⟨F, ρ, R, rel, hf, q⟩ => q _ hf H (.refl rel.hk)
theorem o_some (h : PP X C κ e f) : PDO X C κ (some e) (someO f) := po_mono (po_some h) fun σ H Q ⟨F, ρ, R, rel, hf, q⟩ => ⟨F, ρ, _, rel, hf, fun d hd v H1 e1 p1 => by
  obtain ⟨i, e, hi⟩ := onI_ok hd
  subst e
  exact ⟨i, pk_int p1, q _ hi H1 e1⟩⟩
def slO (lo hi : Option Int) : PyData → (PyData → Prop) → Prop := fun d R => match d with
  | .list ds => R (.list (cutD ds lo hi))
  | .tuple ds => R (.tuple (cutD ds lo hi))
  | .str x => x.length ≤ sizeLine ∧ R (.str (cutS x lo hi))
  | _ => False
def slD (f : DE) (lo hi : DO) : DE := fun ρ R => f ρ fun d => lo ρ fun l => hi ρ fun h => slO l h d R
theorem d_sl {lo hi : Option Expr} {gl gh : DO} (ha : PP X C κ1 a fa) (hl : PDO X C κ2 lo gl) (hh : PDO X C κ3 hi gh) (hK : C.b.K = X.K := by rfl) : PD X C (κ1 + (κ2 + κ3)) (.Subscript a (.Slice lo hi none p2) pos) (slD fa gl gh) :=
  pe_mono (pe_slice (sl_tupA.or (sl_list.or sl_str)) ha hl hh) fun σ H Q ⟨F, ρ, R, rel, hf, q⟩ => by
    refine ⟨F, ρ, _, rel.lel, hf, fun d hd v H1 e1 p1 => ⟨F, ρ, _, (rel.ev e1).lel, hd, fun l hl H2 e2 => ⟨F, ρ, _, (rel.ev e1).ev e2, hl, fun h hh H3 e3 => ?_⟩⟩⟩
    have p3 := (p1.ev e1.hk e2).ev e2.hk e3
    have hk := e3.hk
    have all := e1.trans (e2.trans e3)
    clear p1
    cases d with
    | list ds =>
      obtain ⟨a, vs, rfl, sx, ax⟩ := p3.list
      rw [hK] at sx
      exact .inr (.inl ⟨a, vs, rfl, sx, fun p hp => q _ hh _ _ (all.trans (ev_lst hk hp)) (new_lst hk hp (dps_cut l h ax))⟩)
    | tuple ds =>
      have dx := p3.tupDp
      obtain ⟨a, vs, rfl, sx, ax⟩ := p3.tup
      rw [hK] at sx
      refine .inl ⟨a, vs, rfl, sx, fun ⟨z1, z2⟩ => ?_, fun _ p hp => q _ hh _ _ (all.trans (ev_tup hk hp)) (new_tup hk hp (dps_cut l h ax))⟩
      have len := dps_len ax
      rw [len] at z1 z2
      have e : cutD ds l h = ds := by
        unfold cutD
        rw [z1, z2, List.drop_zero, Nat.sub_zero, List.take_length]
      rw [show slO l h (.tuple ds) R = R (.tuple (cutD ds l h)) from rfl, e] at hh
      exact q _ hh _ _ all dx
    | str x => exact .inr (.inr ⟨x, pk_str p3, hh.1, q _ hh.2 _ _ all (.str _)⟩)
    | _ => exact hh.elim
def revD (f : DE) : DE := fun ρ R => f ρ fun d => onT d fun ds => R (.tuple ds.reverse)
theorem d_rev {kk : Nat} {p1 p2 p3 : Pos} (ha : PP X C κ a fa) (hK : C.b.K = X.K := by rfl) : PD X C κ (.Subscript a (.Slice none none (some (.UnaryOp .USub (.Constant (.int 1) kk p1) p2)) p3) pos) (revD fa) :=
  pe_mono (pe_revT ha) fun σ H Q ⟨F, ρ, R, rel, hf, q⟩ => ⟨F, ρ, _, rel, hf, fun d hd v H1 e1 p1 => by
    obtain ⟨ds, e, hd⟩ := onT_ok hd
    subst e
    obtain ⟨a, vs, rfl, sx, ax⟩ := p1.tup
    rw [hK] at sx
    exact ⟨a, vs, rfl, sx, fun p hp => q _ hd _ _ (e1.trans (ev_tup e1.hk hp)) (new_tup e1.hk hp (dps_rev ax))⟩⟩
/-! ### argument lists, displays -/
def nilA : DA := fun _ R => R []
def consA (f : DE) (g : DA) : DA := fun ρ R => f ρ fun d => g ρ fun ds => R (d :: ds)
theorem a_nil : PDA X C 0 [] nilA := pa_mono pa_nil fun σ H Q ⟨F, ρ, R, rel, hf, q⟩ => q _ hf [] H (.refl rel.hk) .nil
theorem a_cons {g : DA} (ha : PD X C κ1 e f) (hr : PDA X C κ2 es g) (hs : starEach (e :: es) X.env = (false, eval e X.env) :: starEach es X.env := by rfl) : PDA X C (κ1 + κ2) (e :: es) (consA f g) := pa_mono (pa_cons ha hr hs) fun σ H Q ⟨F, ρ, R, rel, hf, q⟩ =>
  ⟨F, ρ, _, rel.lel, hf, fun d hd v H1 e1 p1 => ⟨F, ρ, _, rel.ev e1, hd, fun ds hds vs H2 e2 p2 => q _ hds _ H2 (e1.trans e2) (.cons (e2.dp e1.hk p1) p2)⟩⟩
def tupD (g : DA) : DE := fun ρ R => g ρ fun ds => ds.length ≤ sizeLine ∧ R (.tuple ds)
def lstN (g : DA) : DEnv → (List PyData → Prop) → Prop := fun ρ R => g ρ fun ds => ds.length ≤ sizeLine ∧ R ds
def asL (f : DEnv → (List PyData → Prop) → Prop) : DE := fun ρ R => f ρ fun ds => R (.list ds)
theorem d_tup {g : DA} {x1} (h : PDA X C κ es g) : PD X C κ (.Tuple es x1 pos) (tupD g) := pe_mono (pe_tup h) fun σ H Q ⟨F, ρ, R, rel, hf, q⟩ =>
  ⟨F, ρ, _, rel, hf, fun ds hd vs H1 e1 p1 => ⟨by rw [dps_len p1]; exact hd.1, fun p hp => q _ hd.2 _ _ (e1.trans (ev_tup e1.hk hp)) (new_tup e1.hk hp p1)⟩⟩
theorem n_lst {g : DA} (h : PDA X C κ es g) : PN X C κ (.List es pos) (lstN g) := pe_mono (pe_lst h) fun σ H Q ⟨F, ρ, R, rel, hf, q⟩ =>
  ⟨F, ρ, _, rel, hf, fun ds hd vs H1 e1 p1 => ⟨by rw [dps_len p1]; exact hd.1, fun p hp => q _ hd.2 p vs _ (e1.trans (ev_lst e1.hk hp)) (by
    cases z : H p with
    | none => rfl
    | some o =>
      exfalso
      by_cases hT : p ∈ C.b.Ts
      · obtain ⟨ps, q1, _⟩ := e1.hk.tab p hT
        rw [hp] at q1
        cases q1
      · by_cases hg : C.b.g = some p
        · obtain ⟨_, _, q1, _⟩ := e1.hk.fd p hg
          rw [hp] at q1
          cases q1
        · rw [e1.keep p o z hT hg] at hp
          cases hp) upd_same (Sub.dps (fun b o x _ => by
      obtain ⟨x, nb⟩ := hide_some x
      have nbp : b ≠ p := fun z => by rw [z, hp] at x; cases x
      rw [hide_out (by simp only [List.mem_cons, not_or]; exact ⟨nbp, nb⟩), upd_ne nbp]
      exact x) p1)⟩⟩
end
end DL

/-! What is walked, targets, comprehensions over data. -/
namespace DL
open PySem PySem.Spec PyProof.Rows L2 GX
/-! ### slots -/
section
variable {C : Cc} {H H' : Hp} {F F' : List Addr} {a p : Addr} {v : V} {d : PyData} {σ σ' : L2.St} {ρ : DEnv} {s : SV}
def wipeD (ρ : DEnv) : List Nat → DEnv
  | [] => ρ
  | v :: vs => (wipeD ρ vs).set v none
theorem wipeD_len (ρ : DEnv) : ∀ vs : List Nat, (wipeD ρ vs).length = ρ.length
  | [] => rfl
  | v :: vs => by unfold wipeD; rw [List.length_set, wipeD_len ρ vs]
theorem wipeD_some {ρ : DEnv} {i : Nat} {x : SV} : ∀ {vs : List Nat}, (wipeD ρ vs)[i]? = some (some x) → ρ[i]? = some (some x) ∧ i ∉ vs
  | [], h => ⟨h, by simp⟩
  | v :: vs, h => by
    unfold wipeD at h
    by_cases hi : v = i
    · subst hi
      by_cases hv : v < (wipeD ρ vs).length
      · rw [List.getElem?_set_self hv] at h; cases h
      · rw [List.getElem?_eq_none (by simpa using hv)] at h; cases h
    · rw [List.getElem?_set_ne hi] at h
      obtain ⟨h1, h2⟩ := wipeD_some h
      exact ⟨h1, by simp only [List.mem_cons, not_or]; exact ⟨fun e => hi e.symm, h2⟩⟩
theorem Rel.wipe {κ : Nat} (r : Rel C κ F σ H ρ) (vs : List Nat) : Rel C κ F (wipe σ vs) H (wipeD ρ vs) :=
  ⟨r.hk, r.ent, r.low, r.new, fun i s x => by
    obtain ⟨x, n⟩ := wipeD_some x
    obtain ⟨v, y, z⟩ := r.slot i s x
    exact ⟨v, by rw [wipe_out n]; exact y, z⟩, by rw [wipeD_len, wipe_length]; exact r.len, r.held, fun i j s t v o1 o2 h1 h2 h3 h4 => by
    obtain ⟨h1, n1⟩ := wipeD_some h1
    obtain ⟨h2, n2⟩ := wipeD_some h2
    rw [wipe_out n1] at h3
    rw [wipe_out n2] at h4
    exact r.apart i j s t v o1 o2 h1 h2 h3 h4, r.bud⟩
theorem wipe_in {σ : L2.St} {i : Nat} : ∀ {vs : List Nat}, i ∈ vs → i < σ.length → (L2.wipe σ vs)[i]? = some none
  | v :: vs, m, l => by
    unfold L2.wipe
    by_cases hi : v = i
    · subst hi
      rw [List.getElem?_set_self (by rw [wipe_length]; exact l)]
    · rw [List.getElem?_set_ne hi]
      exact wipe_in ((List.mem_cons.mp m).resolve_left fun e => hi e.symm) l
/-- the same but at js -/
def Upto (js : List Nat) (σ σ' : L2.St) : Prop := σ'.length = σ.length ∧ ∀ i, i ∉ js → σ'[i]? = σ[i]?
theorem Upto.refl {js : List Nat} : Upto js σ σ := ⟨rfl, fun _ _ => rfl⟩
theorem wipe_upto {js vs : List Nat} (u : Upto js (L2.wipe σ vs) σ') (h : ∀ j ∈ js, j ∈ vs) : L2.wipe σ' vs = L2.wipe σ vs := by
  refine List.ext_getElem? fun i => ?_
  have l : σ'.length = σ.length := by rw [u.1, wipe_length]
  by_cases m : i ∈ vs
  · by_cases k : i < σ.length
    · rw [wipe_in m (by omega), wipe_in m k]
    · rw [List.getElem?_eq_none (by rw [wipe_length]; omega), List.getElem?_eq_none (by rw [wipe_length]; omega)]
  · rw [wipe_out m, u.2 i fun z => m (h i z)]
/-- a slot gets a datum -/
theorem Rel.set {κ : Nat} (r : Rel C κ F σ H ρ) (i : Nat) (h : Dp C.b.K (hide H F) v d) : Rel C κ F (σ.set i (some v)) H (ρ.set i (some (.d d))) := by
  refine ⟨r.hk, r.ent, r.low, r.new, fun j s x => ?_, by rw [List.length_set, List.length_set]; exact r.len, r.held, fun j k s t w o1 o2 h1 h2 h3 h4 => ?_, r.bud⟩
  · by_cases hj : i = j
    · subst hj
      have l : i < ρ.length := by
        have := (List.getElem?_eq_some_iff.mp x).1
        rwa [List.length_set] at this
      rw [List.getElem?_set_self l] at x
      cases x
      exact ⟨v, List.getElem?_set_self (by rw [← r.len]; exact l), h⟩
    · rw [List.getElem?_set_ne hj] at x ⊢
      exact r.slot j s x
  · have n : ∀ m (z : SV), z.owned = true → (ρ.set i (some (.d d)))[m]? = some (some z) → i ≠ m := fun m z oz e z' => by
      subst z'

      have l : i < ρ.length := by
        have := (List.getElem?_eq_some_iff.mp e).1
        rwa [List.length_set] at this
      rw [List.getElem?_set_self l] at e
      cases e
      cases oz
    have nj := n j s o1 h1
    have nk := n k t o2 h2
    rw [List.getElem?_set_ne nj] at h1 h3
    rw [List.getElem?_set_ne nk] at h2 h4
    exact r.apart j k s t w o1 o2 h1 h2 h3 h4
theorem upto_set {i : Nat} {o : Option V} : Upto [i] σ (σ.set i o) := ⟨List.length_set .., fun j n => List.getElem?_set_ne fun e => n (by simp [e])⟩
theorem Upto.trans {js ks : List Nat} {τ : L2.St} (a : Upto js σ σ') (b : Upto ks σ' τ) : Upto (js ++ ks) σ τ := ⟨b.1.trans a.1, fun i n => (b.2 i fun m => n (List.mem_append_right _ m)).trans (a.2 i fun m => n (List.mem_append_left _ m))⟩
/-- what was new at a later heap was so at the entry -/
theorem Rel.fresh {κ : Nat} (r : Rel C κ F σ H ρ) (n : H p = none) : C.H0 p = none := by
  cases z : C.H0 p with
  | none => rfl
  | some o =>
    exfalso
    by_cases hT : p ∈ C.b.Ts
    · obtain ⟨ps, q1, _⟩ := r.hk.tab p hT
      rw [n] at q1
      cases q1
    · by_cases hg : C.b.g = some p
      · obtain ⟨_, _, q1, _⟩ := r.hk.fd p hg
        rw [n] at q1
        cases q1
      · rw [r.ent p o z hT hg] at n
        cases n
/-- an address is ours alone from now on -/
theorem Hk.hold {B : Bc} {vs : List V} (h : Hk B F H) (n : H p = none) : Hk B (p :: F) (upd H p (.lst vs)) := by
  have e := Ev.new (o := .lst vs) h n fun _ z => by cases z
  refine ⟨e.hk.tab, fun g hg => ?_, fun a m => ?_⟩
  · obtain ⟨m, cs, y1, x2, x3, y4⟩ := h.fd g hg
    have ne : g ≠ p := fun z => by rw [z, n] at y1; cases y1
    refine ⟨List.mem_cons_of_mem _ m, cs, by rw [upd_ne ne]; exact y1, x2, x3, ?_⟩
    refine Sub.sql (fun b o q no => ?_) y4
    obtain ⟨q, nq⟩ := hide_some q
    have nb : b ≠ p := fun z => by rw [z, n] at q; cases q
    rw [hide_out (by simp only [List.mem_cons, not_or]; exact ⟨nb, nq⟩), upd_ne nb]
    exact q
  · rcases List.mem_cons.mp m with rfl | m
    · exact .inl ⟨vs, upd_same⟩
    · exact e.hk.trk a m
theorem sub_hold {vs : List V} (n : H p = none) : Sub (hide H F) (hide (upd H p (.lst vs)) (p :: F)) := fun b o q _ => by
  obtain ⟨q, nq⟩ := hide_some q
  have nb : b ≠ p := fun z => by rw [z, n] at q; cases q
  rw [hide_out (by simp only [List.mem_cons, not_or]; exact ⟨nb, nq⟩), upd_ne nb]
  exact q
theorem g_ne {B : Bc} (h : Hk B F H) (n : H p = none) : B.g ≠ some p := fun e => by
  obtain ⟨_, _, q, _⟩ := h.fd p e
  rw [n] at q
  cases q
theorem pos_upd {B : Bc} {o : HO} (g : B.g ≠ some p) : posOf B (upd H p o) = posOf B H := pos_eq fun q e => upd_ne fun z => g (z ▸ e)
theorem Rel.hold {κ : Nat} {vs : List V} (r : Rel C κ F σ H ρ) (n : H p = none) : Rel C κ (p :: F) σ (upd H p (.lst vs)) ρ := by
  refine ⟨r.hk.hold n, fun b o x m g => ?_, fun a m => List.mem_cons_of_mem _ (r.low a m), fun a m => ?_, fun i s x => ?_, r.len, fun q hq => (sub_hold n).dp (r.held q hq), r.apart, by rw [pos_upd (g_ne r.hk n)]; exact r.bud⟩
  · have z := r.ent b o x m g
    rw [upd_ne (ne_of_none z n)]
    exact z
  · rcases List.mem_cons.mp m with rfl | m
    · exact .inr (r.fresh n)
    · exact r.new a m
  · obtain ⟨v, y, z⟩ := r.slot i s x
    refine ⟨v, y, ?_⟩
    cases s with
    | d w => exact (sub_hold n).dp z
    | own ys =>
      obtain ⟨a, ws, x1, x2, x3, x4, x5, x6⟩ := z
      exact ⟨a, ws, x1, List.mem_cons_of_mem _ x2, x3, x4, by rw [upd_ne (ne_of_none x5 n)]; exact x5, (sub_hold n).dps x6⟩
    | feed => exact z
    | fn f => exact z
    | ob φ st => exact st _ _ _ (sub_hold n) z
    | oo φ st nl =>
      obtain ⟨a, x1, x2, x3, x4, x5⟩ := z
      have ne : a ≠ p := fun e => (r.hk.trk a x2).no (e ▸ n)
      exact ⟨a, x1, List.mem_cons_of_mem _ x2, x3, x4, by rw [upd_ne ne]; exact st _ _ _ _ (sub_hold n) x5⟩
/-- .. and is written -/
theorem Hk.put {B : Bc} {vs : List V} (h : Hk B F H) (m : p ∈ F) (g : B.g ≠ some p) : Hk B F (upd H p (.lst vs)) := by
  obtain ⟨l, hp, nt⟩ := (h.trk p m).some
  have keep : ∀ b o, H b = some o → b ≠ p → (upd H p (.lst vs)) b = some o := fun b o e n => by rw [upd_ne n]; exact e
  refine ⟨fun T hT => ?_, fun g' e => ?_, fun a ma => ?_⟩
  · obtain ⟨ps, q, r⟩ := h.tab T hT
    exact ⟨ps, keep _ _ q (fun z => by rw [z, hp] at q; exact nt _ (Option.some.inj q)), r⟩
  · obtain ⟨mg, cs, x1, x2, x3, x4⟩ := h.fd g' e
    refine ⟨mg, cs, keep _ _ x1 (fun z => g (z ▸ e)), x2, x3, Sub.sql (fun b u y _ => ?_) x4⟩
    obtain ⟨y, ny⟩ := hide_some y
    rw [hide_out ny]
    exact keep _ _ y fun z => ny (z ▸ m)
  · by_cases z : a = p
    · subst z
      exact .inl ⟨vs, upd_same⟩
    · exact (h.trk a ma).keep fun o e _ => keep _ _ e z
theorem sub_put {vs : List V} (m : p ∈ F) : Sub (hide H F) (hide (upd H p (.lst vs)) F) := fun b o q _ => by
  obtain ⟨q, nq⟩ := hide_some q
  have nb : b ≠ p := fun z => by rw [z] at nq; exact nq m
  rw [hide_out nq, upd_ne nb]
  exact q
theorem Rel.put {κ : Nat} {vs : List V} (r : Rel C κ F σ H ρ) (m : p ∈ F) (n0 : C.H0 p = none) (g : C.b.g ≠ some p) (lp : ∃ ws, H p = some (.lst ws)) (no : ∀ (i : Nat) (xs : List PyData), ρ[i]? = some (some (SV.own xs)) → σ[i]? ≠ some (some (V.ref p))) : Rel C κ F σ (upd H p (.lst vs)) ρ := by
  refine ⟨r.hk.put m g, fun b o x mm gg => ?_, r.low, r.new, fun i s x => ?_, r.len, fun q hq => (sub_put m).dp (r.held q hq), r.apart, by rw [pos_upd g]; exact r.bud⟩
  · rw [upd_ne fun z => by rw [z, n0] at x; cases x]
    exact r.ent b o x mm gg
  · obtain ⟨v, y, z⟩ := r.slot i s x
    refine ⟨v, y, ?_⟩
    cases s with
    | d w => exact (sub_put m).dp z
    | own ys =>
      obtain ⟨a, ws, x1, x2, x3, x4, x5, x6⟩ := z
      have ne : a ≠ p := fun e => no i ys x (by rw [y, x1, e])
      exact ⟨a, ws, x1, x2, x3, x4, by rw [upd_ne ne]; exact x5, (sub_put m).dps x6⟩
    | feed => exact z
    | fn f => exact z
    | ob φ st => exact st _ _ _ (sub_put m) z
    | oo φ st nl =>
      obtain ⟨a, x1, x2, x3, x4, x5⟩ := z
      have ne : a ≠ p := fun e => by
        obtain ⟨ws, hw⟩ := lp
        rw [e, hw] at x5
        exact nl _ _ _ x5
      exact ⟨a, x1, x2, x3, x4, by rw [upd_ne ne]; exact st _ _ _ _ (sub_put m) x5⟩
/-- .. and given free -/
theorem Hk.free {B : Bc} (h : Hk B F H) (g : B.g ≠ some p) : Hk B (F.filter (· ≠ p)) H := by
  have less : ∀ a ∈ F.filter (· ≠ p), a ∈ F := fun a m => (List.mem_filter.mp m).1
  refine ⟨h.tab, fun g' e => ?_, fun a m => h.trk a (less a m)⟩
  obtain ⟨mg, cs, x1, x2, x3, x4⟩ := h.fd g' e
  exact ⟨List.mem_filter.mpr ⟨mg, decide_eq_true fun z => g (z ▸ e)⟩, cs, x1, x2, x3, (sub_less less).sql x4⟩
end
/-! ### targets -/
abbrev DG := PyData → DEnv → (DEnv → Prop) → Prop
abbrev DGs := List PyData → DEnv → (DEnv → Prop) → Prop
def tG (C : Cc) (js : List Nat) (g : DG) : TG := fun v σ H Q => ∃ κ F ρ d R, Rel C κ F σ H ρ ∧ Dp C.b.K (hide H F) v d ∧ g d ρ R ∧ ∀ ρ', R ρ' → ∀ σ', Rel C κ F σ' H ρ' → Upto js σ σ' → Q σ' H
def tGs (C : Cc) (js : List Nat) (g : DGs) : TGs := fun vs σ H Q => ∃ κ F ρ ds R, Rel C κ F σ H ρ ∧ DpAll C.b.K (hide H F) vs ds ∧ g ds ρ R ∧ ∀ ρ', R ρ' → ∀ σ', Rel C κ F σ' H ρ' → Upto js σ σ' → Q σ' H
abbrev PDG (X : Cx) (C : Cc) (e : Expr) (js : List Nat) (g : DG) : Prop := PG X e (tG C js g)
abbrev PDGs (X : Cx) (C : Cc) (es : List Expr) (js : List Nat) (g : DGs) : Prop := PGs X es (tGs C js g)
def gN (i : Nat) : DG := fun d ρ Q => Q (ρ.set i (some (.d d)))
def gNils : DGs := fun ds ρ Q => match ds with
  | [] => Q ρ
  | _ => False
def gConss (g : DG) (gs : DGs) : DGs := fun ds ρ Q => match ds with
  | d :: r => g d ρ fun ρ' => gs r ρ' Q
  | [] => False
def gTupD (n : Nat) (gs : DGs) : DG := fun d ρ Q => onT d fun ds => ds.length = n ∧ gs ds ρ Q
section
variable {X : Cx} {C : Cc} {e : Expr} {es : List Expr} {pos : Pos}
theorem pg_mono {t t' : TG} (h : PG X e t) (m : ∀ v σ H Q, t' v σ H Q → t v σ H Q) : PG X e t' := ⟨fun pins s σ H v u Q I r w => h.run pins s σ H v u Q I r (m v σ H Q w)⟩
theorem pgs_mono {t t' : TGs} (h : PGs X es t) (m : ∀ v σ H Q, t' v σ H Q → t v σ H Q) : PGs X es t' := ⟨fun pins s σ H v u Q I r w => h.run pins s σ H v u Q I r (m v σ H Q w)⟩
theorem g_name {i : Nat} (h : PG X e (gName i)) : PDG X C e [i] (gN i) := pg_mono h fun v σ H Q ⟨κ, F, ρ, d, R, rel, dp, hg, q⟩ => q _ hg _ (rel.set i dp) upto_set
theorem g_nil : PDGs X C [] [] gNils := pgs_mono pgs_nil fun vs σ H Q ⟨κ, F, ρ, ds, R, rel, dp, hg, q⟩ => by
  cases ds with
  | cons _ _ => exact hg.elim
  | nil =>
  cases dp
  exact ⟨rfl, q _ hg _ rel .refl⟩
theorem g_cons {js ks : List Nat} {g : DG} {gs : DGs} (h1 : PDG X C e js g) (h2 : PDGs X C es ks gs) (hs : (assignEach (e :: es) X.env).map (·.2) = assign e X.env :: (assignEach es X.env).map (·.2) := by rfl) : PDGs X C (e :: es) (js ++ ks) (gConss g gs) := pgs_mono (pgs_cons h1 h2 hs) fun vs σ H Q ⟨κ, F, ρ, ds, R, rel, dp, hg, q⟩ => by
  cases ds with
  | nil => exact hg.elim
  | cons d r =>
  cases dp with
  | cons d1 dr => exact ⟨_, _, rfl, κ, F, ρ, _, _, rel, d1, hg, fun ρ' hρ σ' rel' up => ⟨κ, F, ρ', r, R, rel', dr, hρ, fun ρ2 h2 σ2 rel2 up2 => q ρ2 h2 σ2 rel2 (up.trans up2)⟩⟩
theorem g_tup {js : List Nat} {k n : Nat} {gs : DGs} (hc : X.calm = true) (h : PDGs X C es js gs) (hn : (assignEach es X.env).length = n := by rfl) (hst : (assignEach es X.env).findIdx? (·.1) = none := by rfl) (hK : C.b.K = X.K := by rfl) : PDG X C (.Tuple es k pos) js (gTupD n gs) := pg_mono (pg_tup hc h hn hst) fun v σ H Q ⟨κ, F, ρ, d, R, rel, dp, hg, q⟩ => by
  obtain ⟨ds, rfl, hl, hg⟩ := onT_ok hg
  cases dp with
  | tup hx hr => exact ⟨_, _, rfl, hK ▸ sub_hide.sqt hx, by rw [dps_len hr]; exact hl, κ, F, ρ, ds, R, rel, hr, hg, q⟩
end
/-! ### what is walked -/
structure Wk (B : Bc) (J : It) (ds : List PyData) (v : V) (d : PyData) : Prop where
  go : ∀ F H i, Hk B F H → Pk B F H v d → i < ds.length → J.go i H
  yld : ∀ F H i x H', Hk B F H → Pk B F H v d → i < ds.length → J.yld i H x H' → ∃ z, ds[i]? = some z ∧ Ev B 0 F H H' ∧ Dp B.K (hide H' F) x z
  stop : ∀ F H, Hk B F H → Pk B F H v d → J.stop ds.length H
def tIP (C : Cc) (κ : Nat) (f : DEnv → (List PyData → Prop) → Prop) : TI := fun σ H R => ∃ F ρ Rd, Rel C κ F σ H ρ ∧ f ρ Rd ∧ ∀ ds, Rd ds → ∀ J v d H', Ev C.b κ F H H' → Wk C.b J ds v d → Pk C.b F H' v d → R J H'
def tID (C : Cc) (κ : Nat) (f : DEnv → (List PyData → Prop) → Prop) : TI := fun σ H R => ∃ F ρ Rd, Rel C κ F σ H ρ ∧ f ρ Rd ∧ ∀ ds, Rd ds → ∀ J v d H', Ev C.b κ F H H' → Wk C.b J ds v d → Dp C.b.K (hide H' F) v d → R J H'
abbrev PPI (X : Cx) (C : Cc) (κ : Nat) (tg e : Expr) (f : DEnv → (List PyData → Prop) → Prop) : Prop := PI X tg e (tIP C κ f)
abbrev PDI (X : Cx) (C : Cc) (κ : Nat) (tg e : Expr) (f : DEnv → (List PyData → Prop) → Prop) : Prop := PI X tg e (tID C κ f)
/-- a list, a tuple, a text, whichever it is -/
def iAny (K : PySem.W.Frag) (tl : TE) : TI := fun σ H R => tl σ H fun x H1 => (∃ a, x = .ref a ∧ (∃ xs, SqL K H1 a xs) ∧ R (Itl K a) H1) ∨ (∃ a, x = .ref a ∧ (∃ xs, SqT K H1 a xs) ∧ R (Itt K a) H1) ∨ ∃ y, x = .str y ∧ R (Its y) H1
section
variable {X : Cx} {C : Cc} {tg e : Expr} {f : DE}
theorem pi_mono {t t' : TI} (h : PI X tg e t) (m : ∀ σ H R, t' σ H R → t σ H R) : PI X tg e t' := ⟨fun pins s σ H R I w => h.run pins s σ H R I (m σ H R w)⟩
theorem pi_any {tl : TE} (hl : PE X e tl) : PI X tg e (iAny X.K tl) := by
  refine ⟨fun pins s σ H R I h => ?_⟩
  refine thn (hl.run pins s σ H _ I h) fun v s1 ⟨x, H1, I1, r1, q1⟩ => ?_
  rcases q1 with ⟨a, e, ⟨xs, hq⟩, q⟩ | ⟨a, e, ⟨xs, hq⟩, q⟩ | ⟨x, e, q⟩
  · subst e
    cases r1
    obtain ⟨its, rv, p, hz⟩ := I1.list hq
    refine wpAny_pyIter_list p.isList ?_
    refine ⟨s1.heap.objs.size, [s1.heap.objs.size], _, _, H1, rfl, I1.kept (t' := s1.toks) fun b o e => Heap.get?_push_of_some _ e, turn_list a _, ⟨_, Heap.get?_push_size _ rfl, rfl, rfl⟩, fun b hb => ?_, q⟩
    have e : b = s1.heap.objs.size := by simpa using hb
    subst e
    exact I1.fpOk (Nat.le_refl _) (I1.hok.fresh (Nat.le_refl _))
  · subst e
    cases r1
    obtain ⟨its, rv, p, hz⟩ := I1.tuple hq
    refine wpAny_pyIter_tuple (show s1.heap.IsTuple a its.toArray from p) ?_
    refine ⟨s1.heap.objs.size, [s1.heap.objs.size], _, _, H1, rfl, I1.kept (t' := s1.toks) fun b o e => Heap.get?_push_of_some _ e, turn_tuple a _, ⟨_, Heap.get?_push_size _ rfl, rfl, rfl⟩, fun b hb => ?_, q⟩
    have e : b = s1.heap.objs.size := by simpa using hb
    subst e
    exact I1.fpOk (Nat.le_refl _) (I1.hok.fresh (Nat.le_refl _))
  · subst e
    obtain ⟨t, rfl⟩ := r1
    cases ha : x.cps.all (· < 128)
    · exact wpAny_pyIter_wide ha (pi_one (tk := s1.toks) I1 _ (turn_str _ x t "str_iterator" (.inr rfl)) ⟨_, Heap.get?_push_size _ rfl, rfl, rfl⟩ q)
    · exact wpAny_pyIter_ascii ha (pi_one (tk := s1.toks) I1 _ (turn_str _ x t "str_ascii_iterator" (.inl rfl)) ⟨_, Heap.get?_push_size _ rfl, rfl, rfl⟩ q)
def signsD (x : Str) : List PyData := x.cps.toList.map fun c => .str ⟨#[c]⟩
/-- what a datum is walked as -/
def walkD : PyData → Option (List PyData)
  | .list ds => some ds
  | .tuple ds => some ds
  | .str x => some (signsD x)
  | _ => none
theorem wk_list {B : Bc} {a : Addr} {ds : List PyData} : Wk B (Itl B.K a) ds (.ref a) (.list ds) := by
  refine ⟨fun F H i hk pk l => ?_, fun F H i x H' hk pk li y => ?_, fun F H hk pk => ?_⟩
  · obtain ⟨b, vs, e, sq, dp⟩ := pk.list
    cases e
    have l' : i < vs.length := by rw [dps_len dp]; exact l
    exact ⟨vs, vs[i], sq, List.getElem?_eq_getElem l'⟩
  · obtain ⟨b, vs, e, sq, dp⟩ := pk.list
    cases e
    obtain ⟨rfl, y⟩ := y
    obtain ⟨z, hz, dz⟩ := NA.dpa_at dp (y vs sq)
    exact ⟨z, hz, .refl hk, dz⟩
  · obtain ⟨b, vs, e, sq, dp⟩ := pk.list
    cases e
    exact ⟨vs, sq, Nat.le_of_eq (dps_len dp)⟩
theorem wk_tup {B : Bc} {a : Addr} {ds : List PyData} : Wk B (Itt B.K a) ds (.ref a) (.tuple ds) := by
  refine ⟨fun F H i hk pk l => ?_, fun F H i x H' hk pk li y => ?_, fun F H hk pk => ?_⟩
  · obtain ⟨b, vs, e, sq, dp⟩ := pk.tup
    cases e
    have l' : i < vs.length := by rw [dps_len dp]; exact l
    exact ⟨vs, vs[i], sq, List.getElem?_eq_getElem l'⟩
  · obtain ⟨b, vs, e, sq, dp⟩ := pk.tup
    cases e
    obtain ⟨rfl, y⟩ := y
    obtain ⟨z, hz, dz⟩ := NA.dpa_at dp (y vs sq)
    exact ⟨z, hz, .refl hk, dz⟩
  · obtain ⟨b, vs, e, sq, dp⟩ := pk.tup
    cases e
    exact ⟨vs, sq, Nat.le_of_eq (dps_len dp)⟩
theorem wk_str {B : Bc} {x : Str} : Wk B (Its x) (signsD x) (.str x) (.str x) := by
  have len : (signsD x).length = x.cps.size := by unfold signsD; rw [List.length_map, Array.length_toList]
  refine ⟨fun F H i hk pk l => Nat.lt_of_lt_of_eq l len, fun F H i y H' hk pk li q => ?_, fun F H hk pk => Nat.le_of_eq len.symm⟩
  obtain ⟨e, c, hc, rfl⟩ := q
  subst e
  refine ⟨.str ⟨#[c]⟩, ?_, .refl hk, .str _⟩
  unfold signsD
  rw [List.getElem?_map, Array.getElem?_toList, hc]
  rfl
def rngD (lo : Int) (n : Nat) : List PyData := (List.range n).map fun (i : Nat) => .int (lo + (i : Int))
theorem wk_rng {B : Bc} {lo : Int} {n : Nat} : Wk B (Itr lo n) (rngD lo n) .non .none := by
  have len : (rngD lo n).length = n := by unfold rngD; rw [List.length_map, List.length_range]
  refine ⟨fun F H i hk pk l => by rw [len] at l; exact l, fun F H i y H' hk pk li q => ?_, fun F H hk pk => by rw [len]; exact Nat.le_refl _⟩
  obtain ⟨rfl, rfl⟩ := q
  rw [len] at li
  refine ⟨.int (lo + i), ?_, .refl hk, .int _⟩
  unfold rngD
  rw [List.getElem?_map, List.getElem?_range li]
  rfl
def seqI (f : DE) : DEnv → (List PyData → Prop) → Prop := fun ρ R => f ρ fun d => onO (walkD d) R
theorem i_any_p (h : PP X C κ e f) (hK : C.b.K = X.K := by rfl) : PPI X C κ tg e (seqI f) := pi_mono (pi_any h) fun σ H R ⟨F, ρ, Rd, rel, hf, q⟩ =>
  ⟨F, ρ, _, rel, hf, fun d hd v H1 e1 p1 => by
    obtain ⟨ds, hw, hR⟩ := onO_ok hd
    cases d with
    | list xs =>
      cases hw
      obtain ⟨a, vs, rfl, sx, ax⟩ := p1.list
      exact .inl ⟨a, rfl, ⟨vs, hK ▸ sx⟩, hK ▸ q _ hR _ _ _ H1 e1 wk_list p1⟩
    | tuple xs =>
      cases hw
      obtain ⟨a, vs, rfl, sx, ax⟩ := p1.tup
      exact .inr (.inl ⟨a, rfl, ⟨vs, hK ▸ sx⟩, hK ▸ q _ hR _ _ _ H1 e1 wk_tup p1⟩)
    | str x =>
      cases hw
      exact .inr (.inr ⟨x, pk_str p1, q _ hR _ _ _ H1 e1 wk_str (.inl (.str x))⟩)
    | _ => cases hw⟩
theorem i_any_d (h : PD X C κ e f) (hK : C.b.K = X.K := by rfl) : PDI X C κ tg e (seqI f) := pi_mono (pi_any h) fun σ H R ⟨F, ρ, Rd, rel, hf, q⟩ =>
  ⟨F, ρ, _, rel, hf, fun d hd v H1 e1 p1 => by
    obtain ⟨ds, hw, hR⟩ := onO_ok hd
    cases d with
    | list xs =>
      cases hw
      obtain ⟨a, vs, rfl, sx, ax⟩ := (Pk.list (.inl p1) : _)
      exact .inl ⟨a, rfl, ⟨vs, hK ▸ sx⟩, hK ▸ q _ hR _ _ _ H1 e1 wk_list p1⟩
    | tuple xs =>
      cases hw
      obtain ⟨a, vs, rfl, sx, ax⟩ := (Pk.tup (.inl p1) : _)
      exact .inr (.inl ⟨a, rfl, ⟨vs, hK ▸ sx⟩, hK ▸ q _ hR _ _ _ H1 e1 wk_tup p1⟩)
    | str x =>
      cases hw
      cases p1
      exact .inr (.inr ⟨x, rfl, q _ hR _ _ _ H1 e1 wk_str (.str x)⟩)
    | _ => cases hw⟩
theorem PDI.ppi {f : DEnv → (List PyData → Prop) → Prop} (h : PDI X C κ tg e f) : PPI X C κ tg e f := pi_mono h fun σ H R ⟨F, ρ, Rd, rel, hf, q⟩ => ⟨F, ρ, Rd, rel, hf, fun ds hd J v d H' ev wk dp => q ds hd J v d H' ev wk (.inl dp)⟩
def rng1 (f : DE) : DEnv → (List PyData → Prop) → Prop := fun ρ R => f ρ fun d => onI d fun j => -(2 ^ 62) ≤ j ∧ j < 2 ^ 62 ∧ R (rngD 0 j.toNat)
def rng2 (f g : DE) : DEnv → (List PyData → Prop) → Prop := fun ρ R => f ρ fun d => g ρ fun e => onI d fun i => onI e fun j => (-(2 ^ 62) ≤ i ∧ i < 2 ^ 62 ∧ -(2 ^ 62) ≤ j ∧ j < 2 ^ 62) ∧ R (rngD i (j - i).toNat)
theorem i_rng1 {a : Expr} {fa : DE} {p pos : Pos} (hg : Gl X "range") (hm : X.mg "range" = none) (ha : PP X C κ a fa) (hs : starEach [a] X.env = [(false, eval a X.env)] := by rfl) (hs2 : starEach [a] X.env = (false, eval a X.env) :: starEach [] X.env := by rfl) : PDI X C κ tg (.Call (.Name "range" p) [a] [] pos) (rng1 fa) :=
  pi_mono (pi_range1 hg hm (pa_cons ha pa_nil hs2) hs) fun σ H R ⟨F, ρ, Rd, rel, hf, q⟩ => ⟨F, ρ, _, rel, hf, fun d hd v H1 e1 p1 => by
    obtain ⟨j, e, h1, h2, hR⟩ := onI_ok hd
    subst e
    have := pk_int p1
    subst this
    exact ⟨j, rfl, h1, h2, q _ hR _ _ _ H1 e1 wk_rng .non⟩⟩
theorem i_rng2 {a b : Expr} {fa fb : DE} {p pos : Pos} (hg : Gl X "range") (hm : X.mg "range" = none) (ha : PP X C κ1 a fa) (hb : PP X C κ2 b fb) (hs : starEach [a, b] X.env = [(false, eval a X.env), (false, eval b X.env)] := by rfl) (hs2 : starEach [b] X.env = [(false, eval b X.env)] := by rfl)
    (hs3 : starEach [a, b] X.env = (false, eval a X.env) :: starEach [b] X.env := by rfl) (hs4 : starEach [b] X.env = (false, eval b X.env) :: starEach [] X.env := by rfl) : PDI X C (κ1 + κ2) tg (.Call (.Name "range" p) [a, b] [] pos) (rng2 fa fb) :=
  pi_mono (pi_range2 hg hm (pa_cons ha (pa_cons hb pa_nil hs4) hs3) hs hs2) fun σ H R ⟨F, ρ, Rd, rel, hf, q⟩ => ⟨F, ρ, _, rel.lel, hf, fun d hd v H1 e1 p1 => ⟨F, ρ, _, rel.ev e1, hd, fun e he w H2 e2 p2 => by
    obtain ⟨i, ei, he⟩ := onI_ok he
    obtain ⟨j, ej, hb, hR⟩ := onI_ok he
    subst ei ej
    have := pk_int p1
    subst this
    have := pk_int p2
    subst this
    exact ⟨i, j, rfl, hb, q _ hR _ _ _ H2 (e1.trans e2) wk_rng .non⟩⟩⟩
end
end DL

/-! Comprehensions and generator expressions over data. -/
namespace DL
open PySem PySem.Spec PyProof.Rows L2 GX
/-- [e for tg in ds if t], from acc on -/
def lcD (g : DG) (gt : DT) (fe : DE) (ρ : DEnv) (R : List PyData → Prop) : List PyData → List PyData → Prop
  | [], acc => R acc
  | d :: r, acc => g d ρ fun ρ' => gt ρ' fun b => if b = true then fe ρ' fun z => acc.length < sizeLine ∧ lcD g gt fe ρ R r (acc ++ [z]) else lcD g gt fe ρ R r acc
/-- all(..) (b = true), any(..) (b = false) -/
def aaD (b : Bool) (g : DG) (gt : DT) (fe : DE) (ρ : DEnv) (R : PyData → Prop) : List PyData → Prop
  | [] => R (.bool b)
  | d :: r => g d ρ fun ρ' => gt ρ' fun k => if k = true then fe ρ' fun z => onB z fun c => if c = b then aaD b g gt fe ρ R r else R (.bool (!b)) else aaD b g gt fe ρ R r
def yesT : DT := fun _ R => R true
section
variable {X : Cx} {C : Cc}
abbrev PDTs (X : Cx) (C : Cc) (κ : Nat) (es : List Expr) (g : DT) : Prop := PTs X es (tTs C κ g)
theorem ts_nil : PDTs X C 0 [] yesT := ⟨fun pins s σ H Q I ⟨F, ρ, R, rel, hf, q⟩ => pts_nil.run pins s σ H Q I (q true hf H (.refl rel.hk))⟩
theorem ts_one {c : Expr} {g : DT} (h : PDT X C κ c g) : PDTs X C κ [c] g := pts_one h
def lcN (fi : DEnv → (List PyData → Prop) → Prop) (vs : List Nat) (g : DG) (gt : DT) (fe : DE) : DEnv → (List PyData → Prop) → Prop := fun ρ R => fi ρ fun ds => lcD g gt fe (wipeD ρ vs) R ds []
theorem drop_at {α : Type} {l : List α} {i : Nat} (h : i < l.length) : ∃ x, l[i]? = some x ∧ l.drop i = x :: l.drop (i + 1) := ⟨l[i], List.getElem?_eq_getElem h, List.drop_eq_getElem_cons h⟩
theorem steps_le {κ L n i : Nat} (h : κ = 0 ∨ n ≤ L) (hi : i < n) : i * κ + κ ≤ L * κ := by
  rcases h with h | h
  · subst h
    simp
  · rw [← Nat.succ_mul]
    exact Nat.mul_le_mul_right _ (by omega)
/-- .. of at most L items, where something is drawn on the way -/
def lcNL (L : Nat) (fi : DEnv → (List PyData → Prop) → Prop) (vs : List Nat) (g : DG) (gt : DT) (fe : DE) : DEnv → (List PyData → Prop) → Prop := fun ρ R => fi ρ fun ds => ds.length ≤ L ∧ lcD g gt fe (wipeD ρ vs) R ds []
theorem lc_ok {C : Cc} {L κi κt κe : Nat} {fi : DEnv → (List PyData → Prop) → Prop} {js vs : List Nat} {g : DG} {gt : DT} {fe : DE} (W : List PyData → Prop → Prop) (hW : ∀ ds A, W ds A → (κt + κe = 0 ∨ ds.length ≤ L) ∧ A) (hjs : ∀ j ∈ js, j ∈ vs) {σ : L2.St} {H : Hp} {Q : VK} (h : tN C (κi + L * (κt + κe)) (fun ρ R => fi ρ fun ds => W ds (lcD g gt fe (wipeD ρ vs) R ds [])) σ H Q) : tLc (tIP C κi fi) (tG C js g) (tTs C κt gt) (tD C κe fe) vs σ H Q := by
  obtain ⟨F, ρ, R, rel, hf, q⟩ := h
  refine ⟨F, ρ, _, rel.lel, hf, fun ds hW' J v d H1 e1 wk pk D hD => ?_⟩
  obtain ⟨hL, hd⟩ := hW ds _ hW'
  have rel1 := rel.ev e1
  have relD : Rel C (L * (κt + κe)) (D :: F) (wipe σ vs) (upd H1 D (.lst [])) (wipeD ρ vs) := (rel1.wipe vs).hold hD
  have gD : C.b.g ≠ some D := g_ne e1.hk hD
  have pos0 : posOf C.b (upd H1 D (.lst [])) = posOf C.b H1 := pos_upd gD
  have n0 : C.H0 D = none := rel1.fresh hD
  have nT : D ∉ C.b.Ts := fun m => by
    obtain ⟨ps, z, _⟩ := e1.hk.tab D m
    rw [hD] at z
    cases z
  have nown : ∀ (i : Nat) (xs : List PyData), (wipeD ρ vs)[i]? = some (some (SV.own xs)) → (L2.wipe σ vs)[i]? ≠ some (some (V.ref D)) := fun i xs x y => by
    obtain ⟨w, hw, a, ws, x1, x2, x3, x4, x5, x6⟩ := (rel1.wipe vs).slot i _ x
    rw [hw] at y
    cases y
    cases x1
    rw [hD] at x5
    cases x5
  obtain ⟨S, S0, Spk, Sev, Sput⟩ : ∃ S : Hp → Prop, S (upd H1 D (.lst [])) ∧ (∀ G, S G → Pk C.b (D :: F) G v d) ∧ (∀ κ G G', Hk C.b (D :: F) G → Ev C.b κ (D :: F) G G' → S G → S G') ∧ ∀ G us, S G → S (upd G D (.lst us)) := by
    rcases pk with z | ⟨a, ws, xs, x1, x2, x3, x4, x5, x6⟩
    · exact ⟨fun G => Dp C.b.K (hide G (D :: F)) v d, (sub_hold hD).dp z, fun G y => .inl y, fun _ G G' hk e y => e.dp hk y, fun G us y => (sub_put (List.mem_cons_self ..)).dp y⟩
    · have ne : a ≠ D := ne_of_none x5 hD
      refine ⟨fun G => G a = some (.lst ws) ∧ DpAll C.b.K (hide G (D :: F)) ws xs, ⟨by rw [upd_ne ne]; exact x5, (sub_hold hD).dps x6⟩, fun G y => .inr ⟨a, ws, xs, x1, x2, List.mem_cons_of_mem _ x3, x4, y.1, y.2⟩, fun _ G G' hk e y => ⟨e.keep _ _ y.1 (tab_no hk.tab y.1 fun _ z => by cases z) x4, (e.sub hk).dps y.2⟩, fun G us y => ⟨by rw [upd_ne ne]; exact y.1, (sub_put (List.mem_cons_self ..)).dps y.2⟩⟩
  refine ⟨fun i m H' => m + i = ds.length ∧ Rel C 0 (D :: F) (L2.wipe σ vs) H' (wipeD ρ vs) ∧ S H' ∧ (∀ b o, H1 b = some o → b ∉ C.b.Ts → C.b.g ≠ some b → H' b = some o) ∧ posOf C.b H' ≤ posOf C.b H1 + i * (κt + κe) ∧ ∃ us acc, H' D = some (.lst us) ∧ DpAll C.b.K (hide H' (D :: F)) us acc ∧ lcD g gt fe (wipeD ρ vs) R (ds.drop i) acc, ⟨ds.length, rfl, relD.le (Nat.zero_le _), S0, fun b o x _ _ => by rw [upd_ne (ne_of_none x hD)]; exact x, by omega, [], [], upd_same, .nil, hd⟩, ?_⟩
  rintro i m H' ⟨em, rl, pk', kp, hp, us, acc, hus, dus, hl⟩
  rcases Nat.lt_or_ge i ds.length with lt | ge
  · refine .inr ⟨wk.go _ _ _ rl.hk (Spk _ pk') lt, fun H2 => ∃ us acc, Rel C 0 (D :: F) (L2.wipe σ vs) H2 (wipeD ρ vs) ∧ S H2 ∧ (∀ b o, H1 b = some o → b ∉ C.b.Ts → C.b.g ≠ some b → H2 b = some o) ∧ posOf C.b H2 ≤ posOf C.b H1 + (i + 1) * (κt + κe) ∧ H2 D = some (.lst us) ∧ DpAll C.b.K (hide H2 (D :: F)) us acc ∧ lcD g gt fe (wipeD ρ vs) R (ds.drop (i + 1)) acc, fun H2 ⟨us, acc, r2, p2, k2, h2, z⟩ => ⟨ds.length - (i + 1), by omega, by omega, r2, p2, k2, h2, us, acc, z⟩, fun x H2 y => ?_⟩
    obtain ⟨z, hz, e2, dz⟩ := wk.yld _ _ _ _ _ rl.hk (Spk _ pk') lt y
    obtain ⟨z', hz', ed⟩ := drop_at lt
    rw [hz] at hz'
    cases hz'
    rw [ed] at hl
    have keepD : ∀ {κ : Nat} {G G' : Hp} {us : List V}, Hk C.b (D :: F) G → Ev C.b κ (D :: F) G G' → G D = some (.lst us) → G' D = some (.lst us) := fun hk e z => e.keep D _ z nT gD
    have st := steps_le hL lt
    have mul1 : (i + 1) * (κt + κe) = i * (κt + κe) + (κt + κe) := Nat.succ_mul _ _
    have b1 := rel1.bud
    have rlb : Rel C (κt + κe) (D :: F) (L2.wipe σ vs) H' (wipeD ρ vs) := { rl with bud := by omega }
    refine ⟨κt + κe, D :: F, wipeD ρ vs, z, _, rlb.ev0 e2, dz, hl, fun ρ' hρ σ' rel' up => ⟨wipe_upto up hjs, D :: F, ρ', _, rel'.lel, hρ, fun b hb H3 e3 => ?_⟩⟩
    have back : ∀ {G : Hp}, Ev C.b (κt + κe) (D :: F) H2 G → Rel C 0 (D :: F) (L2.wipe σ vs) G (wipeD ρ vs) ∧ S G ∧ (∀ b o, H1 b = some o → b ∉ C.b.Ts → C.b.g ≠ some b → G b = some o) ∧ posOf C.b G ≤ posOf C.b H1 + (i + 1) * (κt + κe) ∧ G D = some (.lst us) ∧ DpAll C.b.K (hide G (D :: F)) us acc := fun {G} e =>
      have e' : Ev C.b (κt + κe) (D :: F) H' G := (e2.trans e).le (by omega)
      ⟨Rel.ev (κ' := 0) rlb e', Sev _ _ _ rl.hk e' pk', fun b o x h1 h2 => e'.keep b o (kp b o x h1 h2) h1 h2, by have := e'.pos; omega, keepD rl.hk e' hus, (e'.sub rl.hk).dps dus⟩
    cases b with
    | false =>
      obtain ⟨a1, a2, a3, a6, a4, a5⟩ := back (e3.le (Nat.le_add_right _ _))
      exact ⟨us, acc, a1, a2, a3, a6, a4, a5, hb⟩
    | true =>
      refine ⟨D :: F, ρ', _, rel'.ev e3, hb, fun w ⟨hlen, hw⟩ y H4 e4 dy => ?_⟩
      obtain ⟨a1, a2, a3, a6, a4, a5⟩ := back (e3.trans e4)
      have mD : D ∈ D :: F := List.mem_cons_self ..
      refine ⟨us, a4, by rw [dps_len a5]; exact hlen, us ++ [y], acc ++ [w], a1.put mD n0 gD ⟨us, a4⟩ nown, Sput _ _ a2, fun b o x h1 h2 => ?_, by rw [pos_upd gD]; exact a6, upd_same, (sub_put mD).dps (dps_cat a5 (.cons dy .nil)), hw⟩
      rw [upd_ne fun z => by rw [z, hD] at x; cases x]
      exact a3 b o x h1 h2
  · obtain rfl : i = ds.length := by omega
    refine .inl ⟨wk.stop _ _ rl.hk (Spk _ pk'), ?_⟩
    rw [List.drop_length] at hl
    have less : ∀ a ∈ F, a ∈ D :: F := fun a m => List.mem_cons_of_mem _ m
    have hkF : Hk C.b F H' := by
      refine ⟨rl.hk.tab, fun g' eg => ?_, fun a ma => rl.hk.trk a (less a ma)⟩
      obtain ⟨mg, cs, x1, x2, x3, x4⟩ := rl.hk.fd g' eg
      exact ⟨(List.mem_cons.mp mg).resolve_left fun z => gD (z ▸ eg), cs, x1, x2, x3, (sub_less less).sql x4⟩
    have HD : H D = none := by
      cases z : H D with
      | none => rfl
      | some o =>
        have := e1.keep D o z nT gD
        rw [hD] at this
        cases this
    have fin : ds.length * (κt + κe) ≤ L * (κt + κe) := by
      rcases hL with h | h
      · rw [h]
        simp
      · exact Nat.mul_le_mul_right _ h
    exact q acc hl D us H' ⟨hkF, fun b o x h1 h2 => kp b o (e1.keep b o x h1 h2) h1 h2, by have := e1.pos; omega⟩ HD hus dus
/-- [elt for tg in iter ifs] -/
theorem n_lc {elt tg iter : Expr} {ifs : List Expr} {scope : Scope} {own : List (Str × Nat)} {pos : Pos} {κ κt κe : Nat} {fi : DEnv → (List PyData → Prop) → Prop} {js : List Nat} {g : DG} {gt : DT} {fe : DE} (hc : X.calm = true) (hN : X.N.Nodup) (hi : PPI X C κ tg iter fi) (ok : BlkOk X.N X.env.scope scope own)
    (hg : ∀ (s : Shared) (H : Hp) (D : Addr) (cl : List (Str × Addr)) (fp : List Addr), PDG (X.blk s H scope (compEnvC scope cl D X.env) fp) C tg js g) (ht : ∀ (s : Shared) (H : Hp) (D : Addr) (cl : List (Str × Addr)) (fp : List Addr), PDTs (X.blk s H scope (compEnvC scope cl D X.env) fp) C κt ifs gt)
    (he : ∀ (s : Shared) (H : Hp) (D : Addr) (cl : List (Str × Addr)) (fp : List Addr), PD (X.blk s H scope (compEnvC scope cl D X.env) fp) C κe elt fe) (hjs : ∀ j ∈ js, j ∈ own.map (·.2)) (hs : ∀ x, foldedSetIterable iter X.env x = pure x := by intro _; rfl) (hz : κt + κe = 0 := by rfl) :
    PN X C κ (.ListComp elt [⟨tg, iter, ifs, 0⟩] scope pos) (lcN fi (own.map (·.2)) g gt fe) := pe_mono (pe_lc hc hN hi ok hg ht he hs) fun σ H Q h => lc_ok (L := 0) (κt := κt) (κe := κe) (fun _ A => A) (fun _ _ h => ⟨.inl hz, h⟩) hjs (by rw [hz]; exact h)
theorem n_lcL {elt tg iter : Expr} {ifs : List Expr} {scope : Scope} {own : List (Str × Nat)} {pos : Pos} (L : Nat) {κi κt κe : Nat} {fi : DEnv → (List PyData → Prop) → Prop} {js : List Nat} {g : DG} {gt : DT} {fe : DE} (hc : X.calm = true) (hN : X.N.Nodup) (hi : PPI X C κi tg iter fi) (ok : BlkOk X.N X.env.scope scope own)
    (hg : ∀ (s : Shared) (H : Hp) (D : Addr) (cl : List (Str × Addr)) (fp : List Addr), PDG (X.blk s H scope (compEnvC scope cl D X.env) fp) C tg js g) (ht : ∀ (s : Shared) (H : Hp) (D : Addr) (cl : List (Str × Addr)) (fp : List Addr), PDTs (X.blk s H scope (compEnvC scope cl D X.env) fp) C κt ifs gt)
    (he : ∀ (s : Shared) (H : Hp) (D : Addr) (cl : List (Str × Addr)) (fp : List Addr), PD (X.blk s H scope (compEnvC scope cl D X.env) fp) C κe elt fe) (hjs : ∀ j ∈ js, j ∈ own.map (·.2)) (hs : ∀ x, foldedSetIterable iter X.env x = pure x := by intro _; rfl) :
    PN X C (κi + L * (κt + κe)) (.ListComp elt [⟨tg, iter, ifs, 0⟩] scope pos) (lcNL L fi (own.map (·.2)) g gt fe) := pe_mono (pe_lc hc hN hi ok hg ht he hs) fun σ H Q h => lc_ok (L := L) (fun ds A => ds.length ≤ L ∧ A) (fun _ _ h => ⟨.inr h.1, h.2⟩) hjs h
/-! ### generator expressions -/
def aaN (b : Bool) (fi : DEnv → (List PyData → Prop) → Prop) (vs : List Nat) (g : DG) (gt : DT) (fe : DE) : DE := fun ρ R => fi ρ fun ds => aaD b g gt fe (wipeD ρ vs) R ds
theorem aa_ok {C : Cc} {b : Bool} {P : Addr} (hP : P ∈ C.b.Ts) {fi : DEnv → (List PyData → Prop) → Prop} {js vs : List Nat} {g : DG} {gt : DT} {fe : DE} {κ : Nat} (hjs : ∀ j ∈ js, j ∈ vs) {σ : L2.St} {H : Hp} {Q : VK} (h : tD C κ (aaN b fi vs g gt fe) σ H Q) : tAA b P (tIP C κ fi) (tG C js g) (tTs C 0 gt) (tD C 0 fe) vs σ H Q := by
  obtain ⟨F, ρ, R, rel, hf, q⟩ := h
  refine ⟨F, ρ, _, rel, hf, fun ds hd J v d H1 e1 wk pk => ⟨e1.hk.tab P hP, fun H2 t2 => ?_⟩⟩
  have e2 : Ev C.b 0 F H1 H2 := Ev.tabbed hP e1.hk t2
  refine ⟨fun _ i m H' => m + i = ds.length ∧ Ev C.b 0 F H2 H' ∧ aaD b g gt fe (wipeD ρ vs) R (ds.drop i), ⟨ds.length, rfl, .refl e2.hk, hd⟩, ?_⟩
  rintro _ i m H' ⟨em, e3, hl⟩
  have all := (e1.trans e2).trans e3
  have pk' := (pk.ev e1.hk e2).ev e2.hk e3
  rcases Nat.lt_or_ge i ds.length with lt | ge
  · refine .inr ⟨wk.go _ _ _ e3.hk pk' lt, fun _ H4 => Ev C.b 0 F H2 H4 ∧ aaD b g gt fe (wipeD ρ vs) R (ds.drop (i + 1)), fun _ H4 ⟨z1, z2⟩ => ⟨ds.length - (i + 1), by omega, by omega, z1, z2⟩, fun x H4 y => ?_⟩
    obtain ⟨z, hz, e4, dz⟩ := wk.yld _ _ _ _ _ e3.hk pk' lt y
    obtain ⟨z', hz', ed⟩ := drop_at lt
    rw [hz] at hz'
    cases hz'
    rw [ed] at hl
    refine ⟨0, F, wipeD ρ vs, z, _, (Rel.ev (κ := κ) (κ' := 0) rel ((all.trans e4).le (Nat.le_refl _))).wipe vs, dz, hl, fun ρ' hρ σ' rel' up => ⟨wipe_upto up hjs, F, ρ', _, rel', hρ, fun k hk H5 e5 => ?_⟩⟩
    cases k with
    | false => exact ⟨(e3.trans e4).trans e5, hk⟩
    | true =>
      refine ⟨F, ρ', _, rel'.ev0 e5, hk, fun w hw0 y H6 e6 dy => ?_⟩
      obtain ⟨c, ew, hw⟩ := onB_ok hw0
      subst ew
      cases dy
      refine ⟨c, rfl, ?_⟩
      by_cases hcb : c = b
      · rw [if_pos hcb] at hw ⊢
        exact ⟨((e3.trans e4).trans e5).trans e6, hw⟩
      · rw [if_neg hcb] at hw ⊢
        exact q _ hw _ H6 (((all.trans e4).trans e5).trans e6) (.bl _)
  · obtain rfl : i = ds.length := by omega
    rw [List.drop_length] at hl
    exact .inl ⟨wk.stop _ _ e3.hk pk', q _ hl _ H' all (.bl _)⟩
def tupN (fi : DEnv → (List PyData → Prop) → Prop) (vs : List Nat) (g : DG) (gt : DT) (fe : DE) : DE := fun ρ R => fi ρ fun ds => lcD g gt fe (wipeD ρ vs) (fun zs => zs.length ≤ sizeLine ∧ R (.tuple zs)) ds []
theorem tg_ok {C : Cc} {P : Addr} (hP : P ∈ C.b.Ts) {fi : DEnv → (List PyData → Prop) → Prop} {js vs : List Nat} {g : DG} {gt : DT} {fe : DE} {κ : Nat} (hjs : ∀ j ∈ js, j ∈ vs) {σ : L2.St} {H : Hp} {Q : VK} (h : tD C κ (tupN fi vs g gt fe) σ H Q) : tTupG P (tIP C κ fi) (tG C js g) (tTs C 0 gt) (tD C 0 fe) vs σ H Q := by
  obtain ⟨F, ρ, R, rel, hf, q⟩ := h
  refine ⟨F, ρ, _, rel, hf, fun ds hd J v d H1 e1 wk pk => ⟨e1.hk.tab P hP, fun H2 t2 => ?_⟩⟩
  have e2 : Ev C.b 0 F H1 H2 := Ev.tabbed hP e1.hk t2
  refine ⟨fun us i m H' => m + i = ds.length ∧ Ev C.b 0 F H2 H' ∧ ∃ acc, DpAll C.b.K (hide H' F) us acc ∧ lcD g gt fe (wipeD ρ vs) (fun zs => zs.length ≤ sizeLine ∧ R (.tuple zs)) (ds.drop i) acc, ⟨ds.length, rfl, .refl e2.hk, [], .nil, hd⟩, ?_⟩
  rintro us i m H' ⟨em, e3, acc, dus, hl⟩
  have all := (e1.trans e2).trans e3
  have pk' := (pk.ev e1.hk e2).ev e2.hk e3
  rcases Nat.lt_or_ge i ds.length with lt | ge
  · refine .inr ⟨wk.go _ _ _ e3.hk pk' lt, fun us' H4 => Ev C.b 0 F H2 H4 ∧ ∃ acc, DpAll C.b.K (hide H4 F) us' acc ∧ lcD g gt fe (wipeD ρ vs) (fun zs => zs.length ≤ sizeLine ∧ R (.tuple zs)) (ds.drop (i + 1)) acc, fun _ H4 ⟨z1, z2⟩ => ⟨ds.length - (i + 1), by omega, by omega, z1, z2⟩, fun x H4 y => ?_⟩
    obtain ⟨z, hz, e4, dz⟩ := wk.yld _ _ _ _ _ e3.hk pk' lt y
    obtain ⟨z', hz', ed⟩ := drop_at lt
    rw [hz] at hz'
    cases hz'
    rw [ed] at hl
    refine ⟨0, F, wipeD ρ vs, z, _, (Rel.ev (κ := κ) (κ' := 0) rel ((all.trans e4).le (Nat.le_refl _))).wipe vs, dz, hl, fun ρ' hρ σ' rel' up => ⟨wipe_upto up hjs, F, ρ', _, rel', hρ, fun k hk H5 e5 => ?_⟩⟩
    cases k with
    | false => exact ⟨(e3.trans e4).trans e5, acc, ((e4.trans e5).sub e3.hk).dps dus, hk⟩
    | true =>
      refine ⟨F, ρ', _, rel'.ev0 e5, hk, fun w ⟨hlen, hw⟩ y H6 e6 dy => ?_⟩
      have dus' := (((e4.trans e5).trans e6).sub e3.hk).dps dus
      exact ⟨by rw [dps_len dus']; exact hlen, ((e3.trans e4).trans e5).trans e6, acc ++ [w], dps_cat dus' (.cons dy .nil), hw⟩
  · obtain rfl : i = ds.length := by omega
    rw [List.drop_length] at hl
    exact .inl ⟨wk.stop _ _ e3.hk pk', by rw [dps_len dus]; exact hl.1, fun p hp => q _ hl.2 _ _ (all.trans (ev_tup e3.hk hp)) (new_tup e3.hk hp dus)⟩
section
variable {c P : Addr} {elt tg iter : Expr} {ifs : List Expr} {p pos gpos : Pos} {scope : Scope} {own : List (Str × Nat)} {fi : DEnv → (List PyData → Prop) → Prop} {js : List Nat} {g : DG} {gt : DT} {fe : DE} {k : Nat}
/-- what a generator expression's place asks of its def: room, the def's table -/
structure Gxc (X : Cx) (C : Cc) (c P : Addr) (k : Nat) : Prop where
  hr : Room (k + 1) X.A
  hc : X.calm = true
  hN : X.N.Nodup
  TB : GxR.TabB X.base X.mg c P
  hcode : X.env.code = .ref c
  hP : P ∈ C.b.Ts
theorem d_all (G : Gxc X C c P k) (hg : Gl X "all") (hm : X.mg "all" = none) (ok : BlkOk X.N X.env.scope scope own) (hco : scope.isCoroutine = false)
    (hcell : ∀ y ∈ scope.names, y.2 ≠ .cell) (hdot : scope.names.lookup (".0" : Str) = some NameKind.local) (hi : PPI X C κ tg iter fi)
    (hpg : ∀ (s : Shared) (H : Hp) (D : Addr) (code : Value) (fp : List Addr), PDG (gcx X X.A.in1.in1 s H (genEnv scope (cloFrom X.env.cells scope.names []) D code builtinsNs X.env) fp) C tg js g)
    (hpt : ∀ (s : Shared) (H : Hp) (D : Addr) (code : Value) (fp : List Addr), Room k (gcx X X.A.in1.in1 s H (genEnv scope (cloFrom X.env.cells scope.names []) D code builtinsNs X.env) fp).A → PDTs (gcx X X.A.in1.in1 s H (genEnv scope (cloFrom X.env.cells scope.names []) D code builtinsNs X.env) fp) C κt ifs gt)
    (hpe : ∀ (s : Shared) (H : Hp) (D : Addr) (code : Value) (fp : List Addr), Room k (gcx X X.A.in1.in1 s H (genEnv scope (cloFrom X.env.cells scope.names []) D code builtinsNs X.env) fp).A → PD (gcx X X.A.in1.in1 s H (genEnv scope (cloFrom X.env.cells scope.names []) D code builtinsNs X.env) fp) C κe elt fe)
    (hjs : ∀ j ∈ js, j ∈ own.map (·.2)) (hs : ∀ v, genFold iter X.env v = pure v := by intro _; rfl)
    (he : starEach [.GeneratorExp elt [⟨tg, iter, ifs, 0⟩] scope gpos] X.env = (false, eval (.GeneratorExp elt [⟨tg, iter, ifs, 0⟩] scope gpos) X.env) :: starEach [] X.env := by rfl) (ht0 : κt = 0 := by rfl) (he0 : κe = 0 := by rfl) :
    PD X C κ (.Call (.Name "all" p) [.GeneratorExp elt [⟨tg, iter, ifs, 0⟩] scope gpos] [] pos) (aaN true fi (own.map (·.2)) g gt fe) :=
  by subst ht0 he0; exact pe_mono (pe_allG G.hr G.hc G.hN hg hm G.TB G.hcode ok hco hcell hdot hi hpg hpt hpe hs he) fun σ H Q h => aa_ok G.hP hjs h
theorem d_any (G : Gxc X C c P k) (hg : Gl X "any") (hm : X.mg "any" = none) (ok : BlkOk X.N X.env.scope scope own) (hco : scope.isCoroutine = false)
    (hcell : ∀ y ∈ scope.names, y.2 ≠ .cell) (hdot : scope.names.lookup (".0" : Str) = some NameKind.local) (hi : PPI X C κ tg iter fi)
    (hpg : ∀ (s : Shared) (H : Hp) (D : Addr) (code : Value) (fp : List Addr), PDG (gcx X X.A.in1.in1 s H (genEnv scope (cloFrom X.env.cells scope.names []) D code builtinsNs X.env) fp) C tg js g)
    (hpt : ∀ (s : Shared) (H : Hp) (D : Addr) (code : Value) (fp : List Addr), Room k (gcx X X.A.in1.in1 s H (genEnv scope (cloFrom X.env.cells scope.names []) D code builtinsNs X.env) fp).A → PDTs (gcx X X.A.in1.in1 s H (genEnv scope (cloFrom X.env.cells scope.names []) D code builtinsNs X.env) fp) C κt ifs gt)
    (hpe : ∀ (s : Shared) (H : Hp) (D : Addr) (code : Value) (fp : List Addr), Room k (gcx X X.A.in1.in1 s H (genEnv scope (cloFrom X.env.cells scope.names []) D code builtinsNs X.env) fp).A → PD (gcx X X.A.in1.in1 s H (genEnv scope (cloFrom X.env.cells scope.names []) D code builtinsNs X.env) fp) C κe elt fe)
    (hjs : ∀ j ∈ js, j ∈ own.map (·.2)) (hs : ∀ v, genFold iter X.env v = pure v := by intro _; rfl)
    (he : starEach [.GeneratorExp elt [⟨tg, iter, ifs, 0⟩] scope gpos] X.env = (false, eval (.GeneratorExp elt [⟨tg, iter, ifs, 0⟩] scope gpos) X.env) :: starEach [] X.env := by rfl) (ht0 : κt = 0 := by rfl) (he0 : κe = 0 := by rfl) :
    PD X C κ (.Call (.Name "any" p) [.GeneratorExp elt [⟨tg, iter, ifs, 0⟩] scope gpos] [] pos) (aaN false fi (own.map (·.2)) g gt fe) :=
  by subst ht0 he0; exact pe_mono (pe_anyG G.hr G.hc G.hN hg hm G.TB G.hcode ok hco hcell hdot hi hpg hpt hpe hs he) fun σ H Q h => aa_ok G.hP hjs h
theorem d_tupG (G : Gxc X C c P k) (hg : Gl X "tuple") (hm : X.mg "tuple" = none) (ok : BlkOk X.N X.env.scope scope own) (hco : scope.isCoroutine = false)
    (hcell : ∀ y ∈ scope.names, y.2 ≠ .cell) (hdot : scope.names.lookup (".0" : Str) = some NameKind.local) (hi : PPI X C κ tg iter fi)
    (hpg : ∀ (s : Shared) (H : Hp) (D : Addr) (code : Value) (fp : List Addr), PDG (gtx X scope s H D code fp) C tg js g)
    (hpt : ∀ (s : Shared) (H : Hp) (D : Addr) (code : Value) (fp : List Addr), Room k (gtx X scope s H D code fp).A → PDTs (gtx X scope s H D code fp) C κt ifs gt)
    (hpe : ∀ (s : Shared) (H : Hp) (D : Addr) (code : Value) (fp : List Addr), Room k (gtx X scope s H D code fp).A → PD (gtx X scope s H D code fp) C κe elt fe)
    (hjs : ∀ j ∈ js, j ∈ own.map (·.2)) (hs : ∀ v, genFold iter X.env v = pure v := by intro _; rfl)
    (he : starEach [.GeneratorExp elt [⟨tg, iter, ifs, 0⟩] scope gpos] X.env = (false, eval (.GeneratorExp elt [⟨tg, iter, ifs, 0⟩] scope gpos) X.env) :: starEach [] X.env := by rfl) (ht0 : κt = 0 := by rfl) (he0 : κe = 0 := by rfl) :
    PD X C κ (.Call (.Name "tuple" p) [.GeneratorExp elt [⟨tg, iter, ifs, 0⟩] scope gpos] [] pos) (tupN fi (own.map (·.2)) g gt fe) :=
  by subst ht0 he0; exact pe_mono (pe_tupG G.hr G.hc G.hN hg hm G.TB G.hcode ok hco hcell hdot hi hpg hpt hpe hs he) fun σ H Q h => tg_ok G.hP hjs h
end
end
end DL

/-! Statements, calls of defs, built-in functions over data. -/
namespace DL
open PySem PySem.Spec PyProof.Rows L2 GX
structure DEnds where
  nx : DEnv → Prop
  rt : PyData → Prop
  bk : DEnv → Prop := fun _ => False
  ct : DEnv → Prop := fun _ => False
abbrev DS := DEnds → DEnv → Prop
structure Good (C : Cc) (κ : Nat) (N : DEnds) (D : Ends) : Prop where
  nx : ∀ ρ, N.nx ρ → ∀ F σ H, Rel C κ F σ H ρ → D.nx σ H
  rt : ∀ d, N.rt d → ∀ F σ H ρ v, Rel C κ F σ H ρ → Dp C.b.K (hide H F) v d → D.rt v H
  bk : ∀ ρ, N.bk ρ → ∀ F σ H, Rel C κ F σ H ρ → D.bk σ H
  ct : ∀ ρ, N.ct ρ → ∀ F σ H, Rel C κ F σ H ρ → D.ct σ H
theorem Good.le {C : Cc} {κ κ' : Nat} {N : DEnds} {D : Ends} (g : Good C κ N D) (h : κ ≤ κ') : Good C κ' N D :=
  ⟨fun ρ x F σ H r => g.nx ρ x F σ H (r.le h), fun d x F σ H ρ v r => g.rt d x F σ H ρ v (r.le h), fun ρ x F σ H r => g.bk ρ x F σ H (r.le h), fun ρ x F σ H r => g.ct ρ x F σ H (r.le h)⟩
def tSD (C : Cc) (κ : Nat) (t : DS) : TS := fun D σ H => ∃ k F ρ N, Rel C (κ + k) F σ H ρ ∧ t N ρ ∧ Good C k N D
abbrev PDS (X : Cx) (C : Cc) (κ : Nat) (st : Stmt) (t : DS) : Prop := PS X st (tSD C κ t)
abbrev PDSs (X : Cx) (C : Cc) (κ : Nat) (sts : List Stmt) (t : DS) : Prop := PSs X sts (tSD C κ t)
def nilS : DS := fun N ρ => N.nx ρ
def seqS (t u : DS) : DS := fun N ρ => t { N with nx := u N } ρ
def retS (f : DE) : DS := fun N ρ => f ρ N.rt
def retNS : DS := fun N _ => N.rt .none
def ifS (g : DT) (t u : DS) : DS := fun N ρ => g ρ fun b => if b = true then t N ρ else u N ρ
def asgS (f : DE) (g : DG) : DS := fun N ρ => f ρ fun d => g d ρ N.nx
def exprS (f : DE) : DS := fun N ρ => f ρ fun _ => N.nx ρ
def ownS (i : Nat) (f : DEnv → (List PyData → Prop) → Prop) : DS := fun N ρ => f ρ fun ds => N.nx (ρ.set i (some (.own ds)))
def appS (i : Nat) (f : DE) : DS := fun N ρ => slotO ρ[i]? fun ds => f ρ fun d => ds.length < sizeLine ∧ N.nx (ρ.set i (some (.own (ds ++ [d]))))
/-- a list of one's own becomes a datum -/
def frzS (i : Nat) (t : DS) : DS := fun N ρ => slotO ρ[i]? fun ds => t N (ρ.set i (some (.d (.list ds))))
def forD (g : DG) (t : DS) (N : DEnds) : List PyData → DEnv → Prop
  | [], ρ => N.nx ρ
  | d :: r, ρ => g d ρ fun ρ' => t { N with nx := forD g t N r, ct := forD g t N r, bk := N.nx } ρ'
def forS (fi : DEnv → (List PyData → Prop) → Prop) (g : DG) (t : DS) : DS := fun N ρ => fi ρ fun ds => forD g t N ds ρ
section
variable {X : Cx} {C : Cc} {e c : Expr} {st : Stmt} {sts rest a b : List Stmt} {t u : DS} {f : DE} {gc : DT} {pos : Pos}
theorem ss_nil : PDSs X C 0 [] nilS := pss_mono pss_nil fun D σ H ⟨k, F, ρ, N, rel, ht, g⟩ => g.nx ρ ht F σ H (rel.le (Nat.le_add_left _ _))
theorem ss_cons (h1 : PDS X C κ1 st t) (h2 : PDSs X C κ2 rest u) : PDSs X C (κ1 + κ2) (st :: rest) (seqS t u) := pss_mono (pss_cons h1 h2) fun D σ H ⟨k, F, ρ, N, rel, ht, g⟩ =>
  ⟨κ2 + k, F, ρ, _, rel.le (Nat.le_of_eq (Nat.add_assoc ..).symm), ht, ⟨fun ρ' h F' σ' H' rel' => ⟨k, F', ρ', N, rel', h, g⟩, (g.le (Nat.le_add_left k κ2)).rt, (g.le (Nat.le_add_left k κ2)).bk, (g.le (Nat.le_add_left k κ2)).ct⟩⟩
theorem ss_one (h1 : PDS X C κ st t) : PDSs X C κ [st] t := pss_one h1
theorem s_ret (he : PD X C κ e f) : PDS X C κ (.Return (some e) pos) (retS f) := ps_mono (ps_ret he) fun D σ H ⟨k, F, ρ, N, rel, ht, g⟩ => ⟨F, ρ, _, rel.lel, ht, fun d hd v H' ev dp => g.rt d hd F σ H' ρ v (rel.ev ev) dp⟩
theorem s_retN : PDS X C 0 (.Return none pos) retNS := ps_mono ps_retN fun D σ H ⟨k, F, ρ, N, rel, ht, g⟩ => g.rt _ ht F σ H ρ _ (rel.le (Nat.le_add_left _ _)) .non
theorem s_if (hc : PDT X C κ1 c gc) (ha : PDSs X C κ2 a t) (hb : PDSs X C κ3 b u) : PDS X C (κ1 + (κ2 + κ3)) (.If c a b pos) (ifS gc t u) := ps_mono (ps_if hc ha hb) fun D σ H ⟨k, F, ρ, N, rel, ht, g⟩ => ⟨F, ρ, _, rel.le (by omega), ht, fun b hb H' ev => by
  have rel : Rel C (κ1 + (κ2 + κ3 + k)) F σ H ρ := rel.le (by omega)
  cases b with
  | true => exact ⟨k, F, ρ, N, (rel.ev ev).le (by omega), hb, g⟩
  | false => exact ⟨k, F, ρ, N, (rel.ev ev).le (by omega), hb, g⟩⟩
theorem s_asg {tg : Expr} {js : List Nat} {gg : DG} (he : PD X C κ e f) (hg : PDG X C tg js gg) (hs : swapsWithSole [tg] e pos.line X.env = pure false := by rfl) (hw : swappedStores [tg] e X.env = pure none := by rfl)
    (h1 : (assignEach [tg] X.env).map (·.2) = [assign tg X.env] := by rfl) : PDS X C κ (.Assign [tg] e pos) (asgS f gg) := ps_mono (ps_asg he hg hs hw h1) fun D σ H ⟨k, F, ρ, N, rel, ht, g⟩ =>
  ⟨F, ρ, _, rel.lel, ht, fun d hd v H' ev dp => ⟨k, F, ρ, d, _, rel.ev ev, dp, hd, fun ρ' h σ' rel' _ => g.nx ρ' h F σ' H' rel'⟩⟩
theorem s_expr (he : PD X C κ e f) (hs : swapsWith e none pos.line X.env = pure false := by rfl) : PDS X C κ (.Expr e pos) (exprS f) := ps_mono (ps_expr he hs) fun D σ H ⟨k, F, ρ, N, rel, ht, g⟩ => ⟨F, ρ, _, rel.lel, ht, fun d hd v H' ev dp => g.nx ρ hd F σ H' (rel.ev ev)⟩
theorem s_doc {x j pos pos'} : PDS X C 0 (.Expr (.Constant (.str x) j pos) pos') nilS := ps_mono ps_doc fun D σ H ⟨k, F, ρ, N, rel, ht, g⟩ => g.nx ρ ht F σ H (rel.le (Nat.le_add_left _ _))
theorem s_pass : PDS X C 0 (.Pass pos) nilS := ps_mono ps_pass fun D σ H ⟨k, F, ρ, N, rel, ht, g⟩ => g.nx ρ ht F σ H (rel.le (Nat.le_add_left _ _))
def neverS : DS := fun _ _ => False
theorem s_never : PDS X C 0 st neverS := ps_mono ps_never fun D σ H ⟨k, F, ρ, N, rel, ht, g⟩ => ht
theorem ss_never : PDSs X C 0 sts neverS := pss_mono pss_never fun D σ H ⟨k, F, ρ, N, rel, ht, g⟩ => ht
/-- a slot gets a list of its own -/
theorem rel_own {F : List Addr} {σ : L2.St} {H H' : Hp} {ρ : DEnv} {p : Addr} {vs : List V} {ds : List PyData} {κ κ' : Nat} (i : Nat) (rel : Rel C (κ + κ') F σ H ρ) (ev : Ev C.b κ F H H') (n : H p = none) (hp : H' p = some (.lst vs)) (dp : DpAll C.b.K (hide H' (p :: F)) vs ds) :
    Rel C κ' (p :: F) (σ.set i (some (.ref p))) H' (ρ.set i (some (.own ds))) := by
  have r1 := rel.ev ev
  have pF : p ∉ F := new_out rel.hk n
  have gp : C.b.g ≠ some p := g_ne rel.hk n
  have key : Sub (hide H F) (hide H' (p :: F)) := fun b o x no => by
    obtain ⟨x, nb⟩ := hide_some x
    have nbp : b ≠ p := fun z => by rw [z, n] at x; cases x
    rw [hide_out (by simp only [List.mem_cons, not_or]; exact ⟨nbp, nb⟩)]
    exact ev.keep b o x (tab_no rel.hk.tab x no) fun z => nb (feed_in rel.hk b z)
  have old : ∀ j s, j ≠ i → (ρ.set i (some (.own ds)))[j]? = some (some s) → ∃ v, σ[j]? = some (some v) ∧ SvOk C F H v s ∧ ρ[j]? = some (some s) := fun j s hj x => by
    rw [List.getElem?_set_ne (Ne.symm hj)] at x
    obtain ⟨v, y, z⟩ := rel.slot j s x
    exact ⟨v, y, z, x⟩
  have notp : ∀ (j : Nat) (t : SV) (v : V), t.owned = true → ρ[j]? = some (some t) → σ[j]? = some (some v) → v ≠ .ref p := fun j t v ot x y z => by
    obtain ⟨w, hw, ok⟩ := rel.slot j _ x
    rw [hw] at y
    cases y
    cases t with
    | own ys =>
      obtain ⟨a, ws, x1, _, _, _, x5, _⟩ := ok
      rw [x1] at z
      cases z
      rw [n] at x5
      cases x5
    | oo φ st nl =>
      obtain ⟨a, x1, x2, _⟩ := ok
      rw [x1] at z
      cases z
      exact (rel.hk.trk _ x2).no n
    | _ => cases ot
  refine ⟨⟨ev.hk.tab, fun g hg => ?_, fun a m => ?_⟩, r1.ent, fun a m => List.mem_cons_of_mem _ (rel.low a m), fun a m => ?_, fun j s x => ?_, by rw [List.length_set, List.length_set]; exact rel.len, fun q hq => key.dp (rel.held q hq), fun j k s t v o1 o2 h1 h2 h3 h4 => ?_, r1.bud⟩
  · obtain ⟨m, cs, x1, x2, x3, x4⟩ := ev.hk.fd g hg
    obtain ⟨_, _, _, _, _, y4⟩ := rel.hk.fd g hg
    exact ⟨List.mem_cons_of_mem _ m, cs, x1, x2, x3, key.sql y4⟩
  · rcases List.mem_cons.mp m with rfl | m
    · exact .inl ⟨vs, hp⟩
    · exact ev.hk.trk a m
  · rcases List.mem_cons.mp m with rfl | m
    · exact .inr (rel.fresh n)
    · exact rel.new a m
  · by_cases hj : j = i
    · subst hj
      have l : j < ρ.length := by
        have := (List.getElem?_eq_some_iff.mp x).1
        rwa [List.length_set] at this
      rw [List.getElem?_set_self l] at x
      cases x
      exact ⟨.ref p, List.getElem?_set_self (by rw [← rel.len]; exact l), p, vs, rfl, List.mem_cons_self .., fun m => pF (rel.low p m), gp, hp, dp⟩
    · obtain ⟨v, y, z, x'⟩ := old j s hj x
      refine ⟨v, by rw [List.getElem?_set_ne (Ne.symm hj)]; exact y, ?_⟩
      cases s with
      | d w => exact key.dp z
      | own ys =>
        obtain ⟨a, ws, x1, x2, x3, x4, x5, x6⟩ := z
        exact ⟨a, ws, x1, List.mem_cons_of_mem _ x2, x3, x4, ev.keep _ _ x5 (tab_no rel.hk.tab x5 fun _ z => by cases z) x4, key.dps x6⟩
      | feed => exact z
      | fn f => exact z
      | ob φ st => exact st _ _ _ key z
      | oo φ st nl =>
        obtain ⟨a, x1, x2, x3, x4, x5⟩ := z
        obtain ⟨o, eo, no⟩ := (rel.hk.trk a x2).some
        exact ⟨a, x1, List.mem_cons_of_mem _ x2, x3, x4, by rw [ev.keep a o eo (tab_no rel.hk.tab eo no) x4, ← eo]; exact st _ _ _ _ key x5⟩
  · have self : ∀ (m : Nat) (z : SV) (w : V), z.owned = true → m ≠ i → (ρ.set i (some (.own ds)))[m]? = some (some z) → (σ.set i (some (.ref p)))[m]? = some (some w) → w ≠ .ref p := fun m z w oz hm x y => by
      rw [List.getElem?_set_ne (Ne.symm hm)] at x y
      exact notp m z w oz x y
    have here : ∀ w, (σ.set i (some (.ref p)))[i]? = some (some w) → w = .ref p := fun w y => by
      have l : i < σ.length := by
        have := (List.getElem?_eq_some_iff.mp y).1
        rwa [List.length_set] at this
      rw [List.getElem?_set_self l] at y
      cases y
      rfl
    by_cases hj : j = i
    · by_cases hk : k = i
      · rw [hj, hk]
      · subst hj
        exact absurd (here v h3) (self k t v o2 hk h2 h4)
    · by_cases hk : k = i
      · subst hk
        exact absurd (here v h4) (self j s v o1 hj h1 h3)
      · rw [List.getElem?_set_ne (Ne.symm hj)] at h1 h3
        rw [List.getElem?_set_ne (Ne.symm hk)] at h2 h4
        exact rel.apart j k s t v o1 o2 h1 h2 h3 h4
theorem s_own {i : Nat} {tg : Expr} {f : DEnv → (List PyData → Prop) → Prop} (he : PN X C κ e f) (hg : PG X tg (gName i)) (hs : swapsWithSole [tg] e pos.line X.env = pure false := by rfl) (hw : swappedStores [tg] e X.env = pure none := by rfl)
    (h1 : (assignEach [tg] X.env).map (·.2) = [assign tg X.env] := by rfl) : PDS X C κ (.Assign [tg] e pos) (ownS i f) := ps_mono (ps_asg he hg hs hw h1) fun D σ H ⟨k, F, ρ, N, rel, ht, g⟩ =>
  ⟨F, ρ, _, rel.lel, ht, fun ds hd a vs H' ev na ha dp => g.nx _ hd _ _ H' (rel_own i rel ev na ha dp)⟩
/-- the own list of slot i gets another content -/
theorem rel_upd {F : List Addr} {σ : L2.St} {H : Hp} {ρ : DEnv} {κ : Nat} {i : Nat} {ds es : List PyData} (rel : Rel C κ F σ H ρ) (h : ρ[i]? = some (some (.own ds))) : ∃ p vs, σ[i]? = some (some (.ref p)) ∧ H p = some (.lst vs) ∧ DpAll C.b.K (hide H F) vs ds ∧ p ∈ F ∧
    ∀ ws, DpAll C.b.K (hide H F) ws es → Rel C κ F σ (upd H p (.lst ws)) (ρ.set i (some (.own es))) := by
  obtain ⟨v, y, p, vs, rfl, x2, x3, x4, x5, x6⟩ := rel.slot i _ h
  have n0 : C.H0 p = none := (rel.new p x2).resolve_left x3
  have li : i < ρ.length := (List.getElem?_eq_some_iff.mp h).1
  refine ⟨p, vs, y, x5, x6, x2, fun ws dws => ?_⟩
  refine ⟨rel.hk.put x2 x4, fun b o x mm gg => ?_, rel.low, rel.new, fun j s x => ?_, by rw [List.length_set]; exact rel.len, fun q hq => (sub_put x2).dp (rel.held q hq), fun j k s t v o1 o2 h1 h2 h3 h4 => ?_, by rw [pos_upd x4]; exact rel.bud⟩
  · rw [upd_ne fun z => by rw [z, n0] at x; cases x]
    exact rel.ent b o x mm gg
  · by_cases hj : j = i
    · subst hj
      rw [List.getElem?_set_self li] at x
      cases x
      exact ⟨.ref p, y, p, ws, rfl, x2, x3, x4, upd_same, (sub_put x2).dps dws⟩
    · rw [List.getElem?_set_ne (Ne.symm hj)] at x
      obtain ⟨v, y', z⟩ := rel.slot j s x
      refine ⟨v, y', ?_⟩
      cases s with
      | d w => exact (sub_put x2).dp z
      | own ys =>
        obtain ⟨a, us, z1, z2, z3, z4, z5, z6⟩ := z
        have ne : a ≠ p := fun e => hj (rel.apart j i (.own ys) (.own ds) v rfl rfl x h y' (by rw [y, z1, e]))
        exact ⟨a, us, z1, z2, z3, z4, by rw [upd_ne ne]; exact z5, (sub_put x2).dps z6⟩
      | feed => exact z
      | fn f => exact z
      | ob φ st => exact st _ _ _ (sub_put x2) z
      | oo φ st nl =>
        obtain ⟨a, z1, z2, z3, z4, z5⟩ := z
        have ne : a ≠ p := fun e => by
          rw [e, x5] at z5
          exact nl _ _ _ z5
        exact ⟨a, z1, z2, z3, z4, by rw [upd_ne ne]; exact st _ _ _ _ (sub_put x2) z5⟩
  · have back : ∀ (m : Nat) (z : SV), z.owned = true → (ρ.set i (some (SV.own es)))[m]? = some (some z) → ∃ z' : SV, z'.owned = true ∧ ρ[m]? = some (some z') := fun m z oz x => by
      by_cases hm : m = i
      · subst hm
        exact ⟨_, rfl, h⟩
      · rw [List.getElem?_set_ne (Ne.symm hm)] at x
        exact ⟨z, oz, x⟩
    obtain ⟨s', o1, h1⟩ := back j s o1 h1
    obtain ⟨t', o2, h2⟩ := back k t o2 h2
    exact rel.apart j k s' t' v o1 o2 h1 h2 h3 h4
theorem s_app {i κ : Nat} {x : Expr} {p2 : Pos} (hx : PE X x (tVar i)) (he : PD X C κ e f) (hb : PE X x (tVar i) → PA X [e] (tCons (tD C κ f) tNil) → PE X (.Call (.Attribute x "append" p2) [e] [] pos) (tBM X.K "list" rAppend (tVar i) (tCons (tD C κ f) tNil)) := by exact fun h1 h2 => pe_bm PySem.F.plainAttrs_list PySem.F.slot_list_append PySem.F.type_list_append mt_append h1 h2)
    (hst : starEach [e] X.env = (false, eval e X.env) :: starEach [] X.env := by rfl) {q : Pos} (hs : swapsWith (.Call (.Attribute x "append" p2) [e] [] pos) none q.line X.env = pure false := by rfl) : PDS X C κ (.Expr (.Call (.Attribute x "append" p2) [e] [] pos) q) (appS i f) :=
  ps_mono (ps_expr (hb hx (pa_cons he pa_nil hst)) hs) fun D σ H ⟨k, F, ρ, N, rel, ht, g⟩ => by
    obtain ⟨ds, hi, ht⟩ := slotO_ok ht
    obtain ⟨p, vs, y, hp, dvs, m, up⟩ := rel_upd (es := ds) rel hi
    refine ⟨.ref p, y, .inl ⟨rfl, _, .inl (.inl hp)⟩, F, ρ, _, rel.lel, ht, fun d ⟨hl, hd⟩ v H' ev dp => ?_⟩
    obtain ⟨p', vs', y', hp', dvs', m', up'⟩ := rel_upd (es := ds ++ [d]) (rel.ev ev) hi
    rw [y] at y'
    cases y'
    exact ⟨p, vs', v, rfl, rfl, hp', by rw [dps_len dvs']; exact hl, g.nx _ hd F σ _ (up' _ (dps_cat dvs' (.cons dp .nil)))⟩
/-- extend by a list -/
def extS (i : Nat) (f : DE) : DS := fun N ρ => slotO ρ[i]? fun ds => f ρ fun d => onL d fun es => ds.length + es.length ≤ sizeLine ∧ N.nx (ρ.set i (some (.own (ds ++ es))))
/-- the own list of slot i is a datum from now on -/
theorem rel_frz {F : List Addr} {σ : L2.St} {H : Hp} {ρ : DEnv} {κ : Nat} {i : Nat} {ds : List PyData} (rel : Rel C κ F σ H ρ) (h : ρ[i]? = some (some (.own ds))) : ∃ F', Rel C κ F' σ H (ρ.set i (some (.d (.list ds)))) := by
  obtain ⟨v, y, p, vs, rfl, x2, x3, x4, x5, x6⟩ := rel.slot i _ h
  have li : i < ρ.length := (List.getElem?_eq_some_iff.mp h).1
  have less : ∀ a ∈ F.filter (· ≠ p), a ∈ F := fun a m => (List.mem_filter.mp m).1
  have sub := sub_less (H := H) less
  refine ⟨F.filter (· ≠ p), rel.hk.free x4, rel.ent, fun a m => List.mem_filter.mpr ⟨rel.low a m, decide_eq_true fun z => x3 (z ▸ m)⟩, fun a m => rel.new a (less a m), fun j s x => ?_, by rw [List.length_set]; exact rel.len, fun q hq => sub.dp (rel.held q hq), fun j k s t v o1 o2 h1 h2 h3 h4 => ?_, rel.bud⟩
  · by_cases hj : j = i
    · subst hj
      rw [List.getElem?_set_self li] at x
      cases x
      refine ⟨.ref p, y, .lst (.inl (.inl ?_)) (sub.dps x6)⟩
      rw [hide_out fun m => by have := (List.mem_filter.mp m).2; simp at this]
      exact x5
    · rw [List.getElem?_set_ne (Ne.symm hj)] at x
      obtain ⟨v, y', z⟩ := rel.slot j s x
      refine ⟨v, y', ?_⟩
      cases s with
      | d w => exact sub.dp z
      | own ys =>
        obtain ⟨a, us, z1, z2, z3, z4, z5, z6⟩ := z
        have ne : a ≠ p := fun e => hj (rel.apart j i (.own ys) (.own ds) v rfl rfl x h y' (by rw [y, z1, e]))
        exact ⟨a, us, z1, List.mem_filter.mpr ⟨z2, decide_eq_true ne⟩, z3, z4, z5, sub.dps z6⟩
      | feed => exact z
      | fn f => exact z
      | ob φ st => exact st _ _ _ sub z
      | oo φ st nl =>
        obtain ⟨a, z1, z2, z3, z4, z5⟩ := z
        have ne : a ≠ p := fun e => by
          rw [e, x5] at z5
          exact nl _ _ _ z5
        exact ⟨a, z1, List.mem_filter.mpr ⟨z2, decide_eq_true ne⟩, z3, z4, st _ _ _ _ sub z5⟩
  · have back : ∀ (m : Nat) (z : SV), z.owned = true → (ρ.set i (some (SV.d (.list ds))))[m]? = some (some z) → ρ[m]? = some (some z) := fun m z oz x => by
      by_cases hm : m = i
      · subst hm
        rw [List.getElem?_set_self li] at x
        cases x
        cases oz
      · rw [List.getElem?_set_ne (Ne.symm hm)] at x
        exact x
    exact rel.apart j k s t v o1 o2 (back j s o1 h1) (back k t o2 h2) h3 h4
theorem ss_frz (i : Nat) (h : PDSs X C κ sts t) : PDSs X C κ sts (frzS i t) := pss_mono h fun D σ H ⟨k, F, ρ, N, rel, ht, g⟩ => by
  obtain ⟨ds, hi, ht⟩ := slotO_ok ht
  obtain ⟨F', r⟩ := rel_frz rel hi
  exact ⟨k, F', _, N, r, ht, g⟩
theorem s_frz (i : Nat) (h : PDS X C κ st t) : PDS X C κ st (frzS i t) := ps_mono h fun D σ H ⟨k, F, ρ, N, rel, ht, g⟩ => by
  obtain ⟨ds, hi, ht⟩ := slotO_ok ht
  obtain ⟨F', r⟩ := rel_frz rel hi
  exact ⟨k, F', _, N, r, ht, g⟩
/-! ### for -/
theorem Rel.unheld {F : List Addr} {σ : L2.St} {H : Hp} {ρ : DEnv} {hs : List (V × PyData)} {q : V × PyData} {κ : Nat} (r : Rel { C with hs := q :: C.hs } κ F σ H ρ) : Rel C κ F σ H ρ :=
  ⟨r.hk, r.ent, r.low, r.new, r.slot, r.len, fun p hp => r.held p (List.mem_cons_of_mem _ hp), r.apart, r.bud⟩
theorem Rel.held1 {F : List Addr} {σ : L2.St} {H : Hp} {ρ : DEnv} {v : V} {d : PyData} {κ : Nat} (r : Rel C κ F σ H ρ) (h : Dp C.b.K (hide H F) v d) : Rel { C with hs := (v, d) :: C.hs } κ F σ H ρ :=
  ⟨r.hk, r.ent, r.low, r.new, r.slot, r.len, fun p hp => by
    rcases List.mem_cons.mp hp with rfl | hp
    · exact h
    · exact r.held p hp, r.apart, r.bud⟩
/-- for, of at most L items, where something is drawn on the way -/
def forSL (L : Nat) (fi : DEnv → (List PyData → Prop) → Prop) (g : DG) (t : DS) : DS := fun N ρ => fi ρ fun ds => ds.length ≤ L ∧ forD g t N ds ρ
theorem for_ok {tg iter : Expr} {body : List Stmt} {L κi κb : Nat} {fi : DEnv → (List PyData → Prop) → Prop} {js : List Nat} {gg : DG} (W : List PyData → Prop → Prop) (hW : ∀ ds A, W ds A → (κb = 0 ∨ ds.length ≤ L) ∧ A) (hp : PassesOwn (model X.prog X.w) X.A X.env X.xe) (hc : X.calm = true) (hi : PDI X C κi tg iter fi) (hg : ∀ hs, PDG X { C with hs := hs } tg js gg) (hb : ∀ hs, PDSs X { C with hs := hs } κb body t)
    (hs : ∀ x, foldedSetIterable iter X.env x = pure x := by intro _; rfl) : PDS X C (κi + L * κb) (.For tg iter body [] pos) (fun N ρ => fi ρ fun ds => W ds (forD gg t N ds ρ)) := by
  have hg' : PG X tg (fun v σ H Q => ∃ hs, tG { C with hs := hs } js gg v σ H Q) := ⟨fun pins s σ H v u Q I r ⟨h0, w⟩ => (hg h0).run pins s σ H v u Q I r w⟩
  have hb' : PSs X body (fun D σ H => ∃ hs, tSD { C with hs := hs } κb t D σ H) := ⟨fun pins s σ H D I ⟨h0, w⟩ => (hb h0).run pins s σ H D I w⟩
  refine ps_mono (ps_for hp hc hi hg' hb' hs) fun D σ H ⟨k, F, ρ, N, rel, ht, g⟩ => ⟨F, ρ, _, rel.le (by omega), ht, fun ds hW' J v d H1 ev wk dp => ?_⟩
  obtain ⟨hL, hd⟩ := hW ds _ hW'
  have rel : Rel C (κi + (L * κb + k)) F σ H ρ := rel.le (by omega)
  have len : ds.length * κb ≤ L * κb := by
    rcases hL with h | h
    · rw [h]
      simp
    · exact Nat.mul_le_mul_right _ h
  refine ⟨fun i m σ' H' => m + i = ds.length ∧ ∃ F' ρ', Rel { C with hs := (v, d) :: C.hs } ((ds.length - i) * κb + k) F' σ' H' ρ' ∧ forD gg t N (ds.drop i) ρ', ⟨ds.length, rfl, F, ρ, ((rel.ev ev).le (by rw [Nat.sub_zero]; omega)).held1 dp, hd⟩, ?_⟩
  rintro i m σ' H' ⟨em, F', ρ', rl, hl⟩
  have pk : Pk C.b F' H' v d := .inl (rl.held (v, d) (List.mem_cons_self ..))
  rcases Nat.lt_or_ge i ds.length with lt | ge
  · refine .inr ⟨wk.go _ _ _ rl.hk pk lt, fun σ2 H2 => ∃ F2 ρ2, Rel { C with hs := (v, d) :: C.hs } ((ds.length - (i + 1)) * κb + k) F2 σ2 H2 ρ2 ∧ forD gg t N (ds.drop (i + 1)) ρ2, fun σ2 H2 z => ⟨ds.length - (i + 1), by omega, by omega, z⟩, fun x H2 y => ?_⟩
    obtain ⟨z, hz, e2, dz⟩ := wk.yld _ _ _ _ _ rl.hk pk lt y
    obtain ⟨z', hz', ed⟩ := drop_at lt
    rw [hz] at hz'
    cases hz'
    rw [ed] at hl
    have one : (ds.length - i) * κb = κb + (ds.length - (i + 1)) * κb := by
      rw [show ds.length - i = (ds.length - (i + 1)) + 1 by omega, Nat.succ_mul]
      omega
    have rl : Rel { C with hs := (v, d) :: C.hs } (κb + ((ds.length - (i + 1)) * κb + k)) F' σ' H' ρ' := rl.le (by omega)
    have small : k ≤ (ds.length - (i + 1)) * κb + k := Nat.le_add_left _ _
    refine ⟨(v, d) :: C.hs, _, F', ρ', z, _, rl.ev0 e2, dz, hl, fun ρ2 h2 σ2 rel2 _ => ⟨(v, d) :: C.hs, (ds.length - (i + 1)) * κb + k, F', ρ2, _, rel2, h2, ⟨?_, ?_, ?_, ?_⟩⟩⟩
    · exact fun ρ3 h3 F3 σ3 H3 rel3 => ⟨F3, ρ3, rel3, h3⟩
    · exact fun d3 h3 F3 σ3 H3 ρ3 v3 rel3 dp3 => g.rt d3 h3 F3 σ3 H3 ρ3 v3 ((Rel.unheld (hs := []) rel3).le small) dp3
    · exact fun ρ3 h3 F3 σ3 H3 rel3 => g.nx ρ3 h3 F3 σ3 H3 ((Rel.unheld (hs := []) rel3).le small)
    · exact fun ρ3 h3 F3 σ3 H3 rel3 => ⟨F3, ρ3, rel3, h3⟩
  · obtain rfl : i = ds.length := by omega
    rw [List.drop_length] at hl
    exact .inl ⟨wk.stop _ _ rl.hk pk, g.nx ρ' hl F' σ' H' ((Rel.unheld (hs := []) rl).le (Nat.le_add_left _ _))⟩
theorem s_for {tg iter : Expr} {body : List Stmt} {κ κb : Nat} {fi : DEnv → (List PyData → Prop) → Prop} {js : List Nat} {gg : DG} (hp : PassesOwn (model X.prog X.w) X.A X.env X.xe) (hc : X.calm = true) (hi : PDI X C κ tg iter fi) (hg : ∀ hs, PDG X { C with hs := hs } tg js gg) (hb : ∀ hs, PDSs X { C with hs := hs } κb body t)
    (hs : ∀ x, foldedSetIterable iter X.env x = pure x := by intro _; rfl) (hz : κb = 0 := by rfl) : PDS X C κ (.For tg iter body [] pos) (forS fi gg t) := by subst hz; exact for_ok (L := 0) (κb := 0) (fun _ A => A) (fun _ _ h => ⟨.inl rfl, h⟩) hp hc hi hg hb hs
theorem s_forL {tg iter : Expr} {body : List Stmt} (L : Nat) {κi κb : Nat} {fi : DEnv → (List PyData → Prop) → Prop} {js : List Nat} {gg : DG} (hp : PassesOwn (model X.prog X.w) X.A X.env X.xe) (hc : X.calm = true) (hi : PDI X C κi tg iter fi) (hg : ∀ hs, PDG X { C with hs := hs } tg js gg) (hb : ∀ hs, PDSs X { C with hs := hs } κb body t)
    (hs : ∀ x, foldedSetIterable iter X.env x = pure x := by intro _; rfl) : PDS X C (κi + L * κb) (.For tg iter body [] pos) (forSL L fi gg t) := for_ok (fun ds A => ds.length ≤ L ∧ A) (fun _ _ h => ⟨.inr h.1, h.2⟩) hp hc hi hg hb hs
end
/-! ### calls of defs -/
/-- what a def promises of data: from its arguments, by the base alone -/
def ArgOk (B : Bc) (F : List Addr) (H : Hp) (v : V) : SV → Prop
  | .d x => Dp B.K (hide H F) v x
  | .own _ => False
  | .feed => ∃ g, B.g = some g ∧ v = .ref g
  | .fn f => v = .ref f
  | .ob _ _ => False
  | .oo _ _ _ => False
inductive ArgsOk (B : Bc) (F : List Addr) (H : Hp) : List V → List SV → Prop
  | nil : ArgsOk B F H [] []
  | cons {v : V} {vs : List V} {s : SV} {ss : List SV} : ArgOk B F H v s → ArgsOk B F H vs ss → ArgsOk B F H (v :: vs) (s :: ss)
def spD (B : Bc) (κ : Nat) (spec : List SV → (PyData → Prop) → Prop) : Sp := fun vs H Q _ => ∃ F svs R, (Hk B F H ∧ posOf B H + κ ≤ LIM) ∧ ArgsOk B F H vs svs ∧ spec svs R ∧ ∀ d, R d → ∀ v H', Ev B κ F H H' → Dp B.K (hide H' F) v d → Q v H'
abbrev DAs := DEnv → (List SV → Prop) → Prop
def tSA (C : Cc) (κ : Nat) (f : DAs) : TA := fun σ H Q => ∃ F ρ R, Rel C κ F σ H ρ ∧ f ρ R ∧ ∀ ss, R ss → ∀ vs H', Ev C.b κ F H H' → ArgsOk C.b F H' vs ss → Q vs H'
abbrev PSA (X : Cx) (C : Cc) (κ : Nat) (es : List Expr) (f : DAs) : Prop := PA X es (tSA C κ f)
def nilSA : DAs := fun _ R => R []
def dSA (f : DE) (g : DAs) : DAs := fun ρ R => f ρ fun d => g ρ fun ss => R (.d d :: ss)
def slotF (o : Option (Option SV)) (k : Prop) : Prop := match o with
  | some (some .feed) => k
  | _ => False
theorem slotF_ok {o : Option (Option SV)} {k : Prop} (h : slotF o k) : o = some (some .feed) ∧ k := by
  rcases o with _ | _ | _ | _ | _ | _ | _ | _ <;> first | exact ⟨rfl, h⟩ | exact h.elim
def feedSA (i : Nat) (g : DAs) : DAs := fun ρ R => slotF ρ[i]? (g ρ fun ss => R (.feed :: ss))
def fnSA (f : Addr) (g : DAs) : DAs := fun ρ R => g ρ fun ss => R (.fn f :: ss)
section
variable {X : Cx} {C : Cc} {e : Expr} {es : List Expr} {f : DE} {g : DAs} {pos p : Pos}
theorem ArgOk.ev {B : Bc} {κ : Nat} {F : List Addr} {H H' : Hp} {v : V} {s : SV} (hk : Hk B F H) (e : Ev B κ F H H') (h : ArgOk B F H v s) : ArgOk B F H' v s := by
  cases s with
  | d x => exact e.dp hk h
  | own _ => exact h
  | feed => exact h
  | fn f => exact h
  | ob φ st => exact h.elim
  | oo φ st nl => exact h.elim
theorem sa_nil : PSA X C 0 [] nilSA := pa_mono pa_nil fun σ H Q ⟨F, ρ, R, rel, hf, q⟩ => q _ hf [] H (.refl rel.hk) .nil
theorem sa_d (ha : PD X C κ1 e f) (hr : PSA X C κ2 es g) (hs : starEach (e :: es) X.env = (false, eval e X.env) :: starEach es X.env := by rfl) : PSA X C (κ1 + κ2) (e :: es) (dSA f g) := pa_mono (pa_cons ha hr hs) fun σ H Q ⟨F, ρ, R, rel, hf, q⟩ =>
  ⟨F, ρ, _, rel.lel, hf, fun d hd v H1 e1 p1 => ⟨F, ρ, _, rel.ev e1, hd, fun ss hs vs H2 e2 p2 => q _ hs _ H2 (e1.trans e2) (.cons (e2.dp e1.hk p1) p2)⟩⟩
theorem sa_feed {i : Nat} (ha : PE X e (tVar i)) (hr : PSA X C κ es g) (hs : starEach (e :: es) X.env = (false, eval e X.env) :: starEach es X.env := by rfl) : PSA X C κ (e :: es) (feedSA i g) := pa_mono (pa_cons ha hr hs) fun σ H Q ⟨F, ρ, R, rel, hf, q⟩ => by
  have hf := slotF_ok hf
  obtain ⟨v, hv, ok⟩ := rel.slot i _ hf.1
  exact ⟨v, hv, F, ρ, _, rel, hf.2, fun ss hs vs H2 e2 p2 => q _ hs _ H2 e2 (.cons ok p2)⟩
theorem sa_fn {a : Addr} (ha : PE X e (tC (.ref a))) (hr : PSA X C κ es g) (hs : starEach (e :: es) X.env = (false, eval e X.env) :: starEach es X.env := by rfl) : PSA X C κ (e :: es) (fnSA a g) := pa_mono (pa_cons ha hr hs) fun σ H Q ⟨F, ρ, R, rel, hf, q⟩ =>
  ⟨F, ρ, _, rel, hf, fun ss hs vs H2 e2 p2 => q _ hs _ H2 e2 (.cons rfl p2)⟩
def callD (spec : List SV → (PyData → Prop) → Prop) (g : DAs) : DE := fun ρ R => g ρ fun ss => spec ss R
theorem call_ok {spec : List SV → (PyData → Prop) → Prop} {σ : L2.St} {H : Hp} {Q : VK} {E : XK} {κ1 κ2 : Nat} (h : tD C (κ1 + κ2) (callD spec g) σ H Q) : tCall (spD C.b κ2 spec) [] E (tSA C κ1 g) σ H Q := by
  obtain ⟨F, ρ, R, rel, hf, q⟩ := h
  refine ⟨F, ρ, _, rel.lel, hf, fun ss hs vs H1 e1 a1 => ?_⟩
  show spD C.b κ2 spec (vs ++ []) H1 Q E
  rw [List.append_nil]
  exact ⟨F, ss, R, ⟨e1.hk, (rel.ev e1).bud⟩, a1, hs, fun d hd v H2 e2 dp => q d hd v H2 (e1.trans e2) dp⟩
theorem d_call {k : Nat} {fa : Addr} {fd : FuncData} {ps : List Str} {x : Str} {spec : List SV → (PyData → Prop) → Prop} (G : FnOk X.prog X.w X.K X.mg X.base CX0 k fa fd ps (spD C.b κ2 spec)) (hr : Room k X.A) (hg : Gl X x) (hm : X.mg x = some (.ref fa)) (hk : PySem.W.keepIn X.K (.ref fa) = true) (hb : Binds X.K fd ps [])
    (ha : PSA X C κ1 (e :: es) g) (hdb : (x == ("__debug__" : Str)) = false := by decide) (he : starEach (e :: es) X.env = (false, eval e X.env) :: starEach es X.env := by rfl) (hpl : (backTo pos (starEach es X.env)).any (·.1) = false := by rfl) :
    PD X C (κ1 + κ2) (.Call (.Name x p) (e :: es) [] pos) (callD spec g) := pe_mono (pe_call G hr hg hm hk hb .nil pass0 ha hdb he hpl) fun σ H Q h => call_ok h
theorem d_callG {k : Nat} {fa : Addr} {fd : FuncData} {ps : List Str} {x : Str} {spec : List SV → (PyData → Prop) → Prop} (G : FnG X.prog X.w X.K X.mg X.base k fa fd ps (spD C.b κ2 spec)) (hr : Calm k X.A) (hg : Gl X x) (hm : X.mg x = some (.ref fa)) (hk : PySem.W.keepIn X.K (.ref fa) = true) (hb : Binds X.K fd ps [])
    (ha : PSA X C κ1 (e :: es) g) (hdb : (x == ("__debug__" : Str)) = false := by decide) (he : starEach (e :: es) X.env = (false, eval e X.env) :: starEach es X.env := by rfl) (hpl : (backTo pos (starEach es X.env)).any (·.1) = false := by rfl) :
    PD X C (κ1 + κ2) (.Call (.Name x p) (e :: es) [] pos) (callD spec g) := pe_mono (pe_callG G hr hg hm hk hb .nil ha hdb he hpl) fun σ H Q h => call_ok h
end
/-! ### a def by its body -/
def startD (N : List Str) (ss : List SV) : DEnv := ss.map some ++ List.replicate (N.length - ss.length) none
theorem args_len {B : Bc} {F : List Addr} {H : Hp} : ∀ {vs : List V} {ss : List SV}, ArgsOk B F H vs ss → vs.length = ss.length
  | _, _, .nil => rfl
  | _, _, .cons _ r => congrArg (· + 1) (args_len r)
theorem args_at {B : Bc} {F : List Addr} {H : Hp} : ∀ {vs : List V} {ss : List SV} {i : Nat} {s : SV}, ArgsOk B F H vs ss → ss[i]? = some s → ∃ v, vs[i]? = some v ∧ ArgOk B F H v s
  | _, _, _, _, .nil, e => by simp at e
  | _, _, 0, _, .cons r _, e => by simp at e; subst e; exact ⟨_, rfl, r⟩
  | _, _, i + 1, s, .cons _ t, e => by
    obtain ⟨x, h1, h2⟩ := args_at (i := i) (s := s) t (by simpa using e)
    exact ⟨x, by simpa using h1, h2⟩
/-- the activation's ground at its entry -/
abbrev cc0 (B : Bc) (H : Hp) (F : List Addr) : Cc := ⟨B, H, F, []⟩
theorem rel_start {B : Bc} {F : List Addr} {H : Hp} {vs : List V} {ss : List SV} {N : List Str} {κ : Nat} (hk : Hk B F H) (hb : posOf B H + κ ≤ LIM) (a : ArgsOk B F H vs ss) : Rel (cc0 B H F) κ F (L2.start N vs) H (startD N ss) := by
  have len := args_len a
  have at_ : ∀ (i : Nat) (s : SV), (startD N ss)[i]? = some (some s) → ss[i]? = some s := fun i s e => by
    unfold startD at e
    rcases Nat.lt_or_ge i ss.length with l | l
    · rw [List.getElem?_append_left (by simpa using l), List.getElem?_map] at e
      cases z : ss[i]? with
      | none => rw [z] at e; cases e
      | some w => rw [z] at e; cases e; rfl
    · rw [List.getElem?_append_right (by simpa using l)] at e
      have := List.mem_of_getElem? e
      have := List.eq_of_mem_replicate this
      cases this
  refine ⟨hk, fun _ _ h _ _ => h, fun _ m => m, fun _ m => .inl m, fun i s e => ?_, ?_, fun _ m => (nomatch m), fun i j s t v o1 _ h1 _ _ _ => ?_, hb⟩
  · obtain ⟨v, hv, ok⟩ := args_at a (at_ i s e)
    have l : i < vs.length := (List.getElem?_eq_some_iff.mp hv).1
    refine ⟨v, ?_, ?_⟩
    · unfold L2.start
      rw [List.getElem?_append_left (by simpa using l), List.getElem?_map, hv]
      rfl
    · cases s with
      | d x => exact ok
      | own _ => exact ok.elim
      | feed => exact ok
      | fn f => exact ok
      | ob φ st => exact ok.elim
      | oo φ st nl => exact ok.elim
  · unfold L2.start startD
    simp only [List.length_append, List.length_map, List.length_replicate]
    omega
  · obtain ⟨v, hv, ok⟩ := args_at a (at_ i _ h1)
    cases s with
    | own _ => exact ok.elim
    | oo _ _ _ => exact ok.elim
    | _ => cases o1
section
variable {P : Program} {w : World} {K : PySem.W.Frag} {mg : Str → Option Value} {base : Heap} {x qual : Str} {params : Arguments} {body : List Stmt} {scope : Scope} {dvs : List V} {kws : List (Str × V)} {f : Addr} {fd : FuncData}
theorem good0 {B : Bc} {F : List Addr} {H : Hp} {R : PyData → Prop} {Q : VK} {κ k : Nat} (hk : Hk B F H) (hb : posOf B H + κ + k = LIM) (q : ∀ d, R d → ∀ v H', Ev B κ F H H' → Dp B.K (hide H' F) v d → Q v H') : Good (cc0 B H F) k { nx := fun _ => R .none, rt := R } { nx := fun _ H' => Q .non H', rt := Q } := by
  have ev : ∀ {F' σ H' ρ}, Rel (cc0 B H F) k F' σ H' ρ → Ev B κ F H H' := fun {F' σ H' ρ} r => by
    refine ⟨⟨r.hk.tab, fun g e => ?_, fun a m => r.hk.trk a (r.low a m)⟩, r.ent, by have : posOf B H' + k ≤ LIM := r.bud; omega⟩
    obtain ⟨m, cs, x1, x2, x3, x4⟩ := r.hk.fd g e
    exact ⟨(hk.fd g e).1, cs, x1, x2, x3, (sub_less r.low).sql x4⟩
  exact ⟨fun ρ h F' σ H' r => q _ h _ H' (ev r) .non, fun d h F' σ H' ρ v r dp => q d h v H' (ev r) ((sub_less r.low).dp dp), fun _ h => h.elim, fun _ h => h.elim⟩
/-- a def of data by its body -/
theorem okD {B : Bc} {N ps : List Str} {k κ : Nat} {c : Addr} {spec : List SV → (PyData → Prop) → Prop} (F : FunD K x qual params body scope dvs kws f fd) (hc : fd.code = .ref c) (S : FnScope N ps scope) (cnt : ∀ ss R, spec ss R → ss.length = ps.length)
    (hbody : ∀ (A : Around) (outer : List Env) (s : Shared) (H : Hp) (E : XK) (F0 : List Addr), Room k (A.deeper (envOfC qual scope s.heap.objs.size f (.ref c))) →
      ∃ t, (∃ κ', PDSs (cxOf CX0 P w K mg base N qual scope f (.ref c) A outer s H E).nox (cc0 B H F0) κ' body t ∧ κ' ≤ κ) ∧ ∀ ss R, spec ss R → t { nx := fun _ => R .none, rt := R } (startD N ss)) : FnOk P w K mg base CX0 (k + 1) f fd ps (spD B κ spec) := by
  refine okC F hc S (fun vs H Q E ⟨F0, ss, R, hk, a, hs, q⟩ => (args_len a).trans (cnt ss R hs)) fun A outer s H vs Q E hr ⟨F0, ss, R, ⟨hk, hb⟩, a, hs, q⟩ => ?_
  obtain ⟨t, ⟨κ', runs, le⟩, good⟩ := hbody A outer s H E F0 hr
  exact ⟨_, PSs.nox runs, LIM - (posOf B H + κ), F0, _, _, (rel_start (κ := κ + (LIM - (posOf B H + κ))) hk (by omega) a).le (by omega), good ss R hs, good0 hk (by omega) q⟩
theorem okDG {B : Bc} {N ps : List Str} {k κ : Nat} {c : Addr} {spec : List SV → (PyData → Prop) → Prop} (F : FunD K x qual params body scope dvs kws f fd) (hc : fd.code = .ref c) (S : FnScope N ps scope) (cnt : ∀ ss R, spec ss R → ss.length = ps.length)
    (hbody : ∀ (A : Around) (outer : List Env) (s : Shared) (H : Hp) (E : XK) (F0 : List Addr), Calm k (cxOf CX0 P w K mg base N qual scope f (.ref c) A outer s H E).A →
      ∃ t, (∃ κ', PDSs (cxOf CX0 P w K mg base N qual scope f (.ref c) A outer s H E).nox (cc0 B H F0) κ' body t ∧ κ' ≤ κ) ∧ ∀ ss R, spec ss R → t { nx := fun _ => R .none, rt := R } (startD N ss)) : FnG P w K mg base (k + 1) f fd ps (spD B κ spec) := by
  refine okG F hc S (fun vs H Q E ⟨F0, ss, R, hk, a, hs, q⟩ => (args_len a).trans (cnt ss R hs)) fun A outer s H vs Q E hr ⟨F0, ss, R, ⟨hk, hb⟩, a, hs, q⟩ => ?_
  obtain ⟨t, ⟨κ', runs, le⟩, good⟩ := hbody A outer s H E F0 hr
  exact ⟨_, PSs.nox runs, LIM - (posOf B H + κ), F0, _, _, (rel_start (κ := κ + (LIM - (posOf B H + κ))) hk (by omega) a).le (by omega), good ss R hs, good0 hk (by omega) q⟩
end
/-! ### built-in functions -/
def C1 (B : Bc) (r : List V → Hp → VK → Prop) (o : PyData → (PyData → Prop) → Prop) : Prop := ∀ (F : List Addr) (H : Hp) (x : V) (d : PyData) (R : PyData → Prop) (Q : VK), Hk B F H → Pk B F H x d → o d R → (∀ z, R z → ∀ v H', Ev B 0 F H H' → Dp B.K (hide H' F) v z → Q v H') → r [x] H Q
def b1D (o : PyData → (PyData → Prop) → Prop) (f : DE) : DE := fun ρ R => f ρ fun d => o d R
section
variable {X : Cx} {C : Cc} {e : Expr} {f : DE} {pos p : Pos} {x : Str} {id T : String} {r : List V → Hp → VK → Prop} {o : PyData → (PyData → Prop) → Prop}
theorem b1_ok (c : C1 C.b r o) {σ : L2.St} {H : Hp} {Q : VK} {κ : Nat} (h : tD C κ (b1D o f) σ H Q) : tCB r (tCons (tP C κ f) tNil) σ H Q := by
  obtain ⟨F, ρ, R, rel, hf, q⟩ := h
  exact ⟨F, ρ, _, rel, hf, fun d hd v H1 e1 p1 => c F H1 v d R Q e1.hk p1 hd fun z hz v H2 e2 dp => q z hz v H2 (e1.trans e2) dp⟩
theorem d_b1 (hc : CallR X (.builtin id) r) (c : C1 C.b r o) (hg : Gl X x) (hm : X.mg x = none) (hv : bootBuiltins x = some (.builtin id)) (ha : PP X C κ e f) (hn : x ≠ "__name__" := by decide) (hdb : (x == ("__debug__" : Str)) = false := by decide)
    (he : starEach [e] X.env = (false, eval e X.env) :: starEach [] X.env := by rfl) : PD X C κ (.Call (.Name x p) [e] [] pos) (b1D o f) := pe_mono (pe_callB hc hg hm hv (pa_cons ha pa_nil he) hn hdb he) fun σ H Q h => b1_ok c h
theorem d_t1 (hc : CallR X (.type T) r) (c : C1 C.b r o) (hg : Gl X x) (hm : X.mg x = none) (hv : bootBuiltins x = some (.type T)) (ha : PP X C κ e f) (hn : x ≠ "__name__" := by decide) (hdb : (x == ("__debug__" : Str)) = false := by decide)
    (he : starEach [e] X.env = (false, eval e X.env) :: starEach [] X.env := by rfl) : PD X C κ (.Call (.Name x p) [e] [] pos) (b1D o f) := pe_mono (pe_callTy hc hg hm hv (pa_cons ha pa_nil he) hn hdb he) fun σ H Q h => b1_ok c h
/-- len -/
def lenO : PyData → (PyData → Prop) → Prop := fun d R => match d with
  | .str x => x.length ≤ sizeLine ∧ R (.int x.length)
  | .list ds => R (.int ds.length)
  | .tuple ds => R (.int ds.length)
  | _ => False
theorem c1_len {B : Bc} : C1 B (fun xs H Q => ∃ x n, xs = [x] ∧ LenV B.K x H n ∧ Q (.int n) H) lenO := fun F H x d R Q hk px ho q => by
  cases d with
  | str z => exact ⟨x, _, rfl, by rw [pk_str px]; exact ⟨ho.1, rfl⟩, q _ ho.2 _ H (.refl hk) (.int _)⟩
  | list ds =>
    obtain ⟨a, vs, rfl, sx, ax⟩ := px.list
    exact ⟨_, _, rfl, .inl ⟨vs, sx, rfl⟩, by rw [dps_len ax]; exact q _ ho _ H (.refl hk) (.int _)⟩
  | tuple ds =>
    obtain ⟨a, vs, rfl, sx, ax⟩ := px.tup
    exact ⟨_, _, rfl, .inr ⟨vs, sx, rfl⟩, by rw [dps_len ax]; exact q _ ho _ H (.refl hk) (.int _)⟩
  | _ => exact ho.elim
theorem d_len (hg : Gl X "len") (hm : X.mg "len" = none) (ha : PP X C κ e f) (he : starEach [e] X.env = (false, eval e X.env) :: starEach [] X.env := by rfl) (hK : C.b.K = X.K := by rfl) : PD X C κ (.Call (.Name "len" p) [e] [] pos) (b1D lenO f) :=
  d_b1 call_len (hK ▸ c1_len) hg hm PySem.boot_len ha (by decide) (by decide) he
/-- repr, where no repr is under way -/
def reprO : PyData → (PyData → Prop) → Prop := fun d R => d.showable = true ∧ d.depth ≤ 100 ∧ d.shown.length ≤ sizeLine ∧ R (.str d.shown)
theorem call_reprD {k : Nat} (calm : Calm k X.A) : CallR X (.builtin "repr") (fun xs H Q => ∃ x d, xs = [x] ∧ Dp X.K H x d ∧ d.showable = true ∧ d.depth ≤ 100 ∧ d.shown.length ≤ sizeLine ∧ Q (.str d.shown) H) := by
  intro pins s σ H xs us Q I rel ⟨x, d, e, dp, s1, s2, s3, q⟩
  subst e
  obtain ⟨u, rfl, r1⟩ := vals1 rel
  have fin : ∀ {tk : Nat}, EP X pins σ Q (.str d.shown s.toks) { s with toks := tk } := fun {tk} => ⟨.str _, H, I.tok _, ⟨_, rfl⟩, q⟩
  cases dp with
  | non => cases r1; exact PySem.P.repr_of_none fin
  | bl b => cases r1; exact PySem.P.repr_of_bool fin
  | int i => obtain ⟨t, rfl⟩ := r1; exact PySem.P.repr_of_int (of_decide_eq_true s1) fin
  | str z => obtain ⟨t, rfl⟩ := r1; exact PySem.P.repr_of_str fin s3
  | lst h r => exact call_repr_deep calm pins s σ H _ _ Q I (.cons r1 .nil) ⟨_, _, rfl, .lst h r, s1, s2, s3, q⟩
  | tup h r => exact call_repr_deep calm pins s σ H _ _ Q I (.cons r1 .nil) ⟨_, _, rfl, .tup h r, s1, s2, s3, q⟩
theorem d_repr {k : Nat} (calm : Calm k X.A) (hg : Gl X "repr") (hm : X.mg "repr" = none) (ha : PP X C κ e f) (he : starEach [e] X.env = (false, eval e X.env) :: starEach [] X.env := by rfl) (hK : C.b.K = X.K := by rfl) : PD X C κ (.Call (.Name "repr" p) [e] [] pos) (b1D reprO f) :=
  d_b1 (call_reprD calm) (fun F H x d R Q hk px ⟨h1, h2, h3, h4⟩ q => ⟨x, d, rfl, hK ▸ px.dp, h1, h2, h3, q _ h4 _ H (.refl hk) (.str _)⟩) hg hm (by decide +kernel) ha (by decide) (by decide) he
/-- str of a whole number -/
def strO : PyData → (PyData → Prop) → Prop := fun d R => onI d fun i => i.natAbs.log2 < 1920 ∧ R (.str (toString i))
theorem d_str1 (hg : Gl X "str") (hm : X.mg "str" = none) (ha : PP X C κ e f) (he : starEach [e] X.env = (false, eval e X.env) :: starEach [] X.env := by rfl) : PD X C κ (.Call (.Name "str" p) [e] [] pos) (b1D strO f) :=
  d_t1 call_str_int (fun F H x d R Q hk px ho q => by obtain ⟨i, e, h1, h2⟩ := onI_ok ho; subst e; exact ⟨i, by rw [pk_int px], h1, q _ h2 _ H (.refl hk) (.str _)⟩) hg hm (by decide +kernel) ha (by decide) (by decide) he
/-- int of a number, a truth, a text -/
def int1O : PyData → (PyData → Prop) → Prop := fun d R => match d with
  | .int i => R (.int i)
  | .bool b => R (.int (if b then 1 else 0))
  | .str x => x.length ≤ 640 ∧ onO (PySem.intText? x) fun n => R (.int n)
  | _ => False
theorem CallR.or {g : Value} {r r' : List V → Hp → VK → Prop} (h : CallR X g r) (h' : CallR X g r') : CallR X g (fun xs H Q => r xs H Q ∨ r' xs H Q) := fun pins s σ H xs us Q I rel q => q.elim (h pins s σ H xs us Q I rel) (h' pins s σ H xs us Q I rel)
theorem d_int1 (hg : Gl X "int") (hm : X.mg "int" = none) (ha : PP X C κ e f) (he : starEach [e] X.env = (false, eval e X.env) :: starEach [] X.env := by rfl) : PD X C κ (.Call (.Name "int" p) [e] [] pos) (b1D int1O f) :=
  d_t1 (CallR.or call_int1 call_int_str) (fun F H x d R Q hk px ho q => by
    cases d with
    | int i => exact .inl (.inl ⟨i, by rw [pk_int px], q _ ho _ H (.refl hk) (.int _)⟩)
    | bool b => exact .inl (.inr ⟨b, by rw [pk_bl px], q _ ho _ H (.refl hk) (.int _)⟩)
    | str z =>
      obtain ⟨h2, ho⟩ := ho
      obtain ⟨n, h1, h3⟩ := onO_ok ho
      exact .inr ⟨z, n, by rw [pk_str px], h1, h2, q _ h3 _ H (.refl hk) (.int _)⟩
    | _ => exact ho.elim) hg hm (by decide +kernel) ha (by decide) (by decide) he
/-- tuple of a list, a tuple -/
def tuple1O : PyData → (PyData → Prop) → Prop := fun d R => onO (itemsD d) fun ds => R (.tuple ds)
theorem d_tuple1 (hg : Gl X "tuple") (hm : X.mg "tuple" = none) (ha : PP X C κ e f) (he : starEach [e] X.env = (false, eval e X.env) :: starEach [] X.env := by rfl) (hK : C.b.K = X.K := by rfl) : PD X C κ (.Call (.Name "tuple" p) [e] [] pos) (b1D tuple1O f) :=
  d_t1 call_tuple_of (fun F H x d R Q hk px ho q => by
    obtain ⟨ds, hd, ho⟩ := onO_ok ho
    cases d with
    | list ds =>
      cases hd
      obtain ⟨a, vs, rfl, sx, ax⟩ := px.list
      exact ⟨a, vs, rfl, .inl ⟨hK ▸ sx, fun l hl => q _ ho _ _ (ev_tup hk hl) (new_tup hk hl ax)⟩⟩
    | tuple ds =>
      cases hd
      have dx := px.tupDp
      obtain ⟨a, vs, rfl, sx, ax⟩ := px.tup
      exact ⟨a, vs, rfl, .inr ⟨hK ▸ sx, q _ ho _ H (.refl hk) dx⟩⟩
    | _ => cases hd) hg hm (by decide +kernel) ha (by decide) (by decide) he
/-- isinstance -/
def isiD (g : PyData → Bool) (f : DE) : DE := fun ρ R => f ρ fun d => R (.bool (g d))
theorem d_isi {g : PyData → Bool} {ty : Expr} (kit : ∀ (z : V) (d : PyData) (H : Hp), Dp C.b.K H z d → PySem.W.kitOne C.b.K (.type (NA.tyN d)) (.type T) = some (g d)) (hg : Gl X "isinstance") (hm : X.mg "isinstance" = none) (ha : PP X C κ e f) (ht : PE X ty (tC (.ty T)))
    (he : starEach [e, ty] X.env = (false, eval e X.env) :: starEach [ty] X.env := by rfl) (he2 : starEach [ty] X.env = (false, eval ty X.env) :: starEach [] X.env := by rfl) (hpl : (backTo pos (starEach [ty] X.env)).any (·.1) = false := by rfl) (hK : C.b.K = X.K := by rfl) : PD X C κ (.Call (.Name "isinstance" p) [e, ty] [] pos) (isiD g f) :=
  pe_mono (pe_callB call_isi hg hm (by decide +kernel) (pa_cons ha (pa_cons ht pa_nil he2) he) (by decide) (by decide) he hpl) fun σ H Q ⟨F, ρ, R, rel, hf, q⟩ => ⟨F, ρ, _, rel, hf, fun d hd v H1 e1 p1 => by
    have dp := p1.dp
    exact ⟨v, _, _, _, _, rfl, .ty T, hK ▸ NA.ty_of dp, hK ▸ kit v d H1 dp, q _ hd _ H1 e1 (.bl _)⟩⟩
end
end DL

/-! Lists made anew, methods of texts, the feed. -/
namespace DL
open PySem PySem.Spec PyProof.Rows L2 GX
section
variable {X : Cx} {C : Cc} {e o : Expr} {f fo fe : DE} {pos p apos : Pos}
theorem new_none {C : Cc} {F : List Addr} {H H1 : Hp} {p : Addr} {κ : Nat} (e1 : Ev C.b κ F H H1) (hp : H1 p = none) : H p = none := by
  cases z : H p with
  | none => rfl
  | some o =>
    exfalso
    by_cases hT : p ∈ C.b.Ts
    · obtain ⟨ps, q1, _⟩ := e1.hk.tab p hT
      rw [hp] at q1
      cases q1
    · by_cases hg : C.b.g = some p
      · obtain ⟨_, _, q1, _⟩ := e1.hk.fd p hg
        rw [hp] at q1
        cases q1
      · rw [e1.keep p o z hT hg] at hp
        cases hp
/-- list of a list, a tuple -/
def list1N (f : DE) : DEnv → (List PyData → Prop) → Prop := fun ρ R => f ρ fun d => onO (itemsD d) R
theorem n_list1 (hg : Gl X "list") (hm : X.mg "list" = none) (ha : PP X C κ e f) (he : starEach [e] X.env = (false, eval e X.env) :: starEach [] X.env := by rfl) (hK : C.b.K = X.K := by rfl) : PN X C κ (.Call (.Name "list" p) [e] [] pos) (list1N f) :=
  pe_mono (pe_callTy call_list_of hg hm (by decide +kernel) (pa_cons ha pa_nil he) (by decide) (by decide) he) fun σ H Q ⟨F, ρ, R, rel, hf, q⟩ => ⟨F, ρ, _, rel, hf, fun d ho v H1 e1 p1 => by
    obtain ⟨ds, hd, ho⟩ := onO_ok ho
    have fin : ∀ {vs : List V} {l : Addr}, DpAll C.b.K (hide H1 F) vs ds → H1 l = none → Q (.ref l) (upd H1 l (.lst vs)) := fun {vs l} ax hl =>
      q _ ho l _ _ (e1.trans (ev_lst e1.hk hl)) (new_none e1 hl) upd_same ((sub_hold hl).dps ax)
    cases d with
    | list ds =>
      cases hd
      obtain ⟨a, vs, rfl, sx, ax⟩ := p1.list
      exact ⟨a, vs, rfl, .inl (hK ▸ sx), fun l hl => fin ax hl⟩
    | tuple ds =>
      cases hd
      obtain ⟨a, vs, rfl, sx, ax⟩ := p1.tup
      exact ⟨a, vs, rfl, .inr (hK ▸ sx), fun l hl => fin ax hl⟩
    | _ => cases hd⟩
/-- a text's method with one argument -/
def m1D (m : Str → PyData → (PyData → Prop) → Prop) (fo fe : DE) : DE := fun ρ R => fo ρ fun d => onS d fun a => fe ρ fun e => m a e R
def M1 (B : Bc) (r : V → List V → Hp → VK → Prop) (m : Str → PyData → (PyData → Prop) → Prop) : Prop := ∀ (F : List Addr) (H : Hp) (a : Str) (y : V) (e : PyData) (R : PyData → Prop) (Q : VK), Hk B F H → Pk B F H y e → m a e R → (∀ z, R z → ∀ v H', Ev B 0 F H H' → Dp B.K (hide H' F) v z → Q v H') → r (.str a) [y] H Q
theorem d_m1 {id : String} {name : Str} {r : V → List V → Hp → VK → Prop} {m : Str → PyData → (PyData → Prop) → Prop} (slot : Slot "str" name id) (ty : typeOf (.builtin id) = pure (.type "method_descriptor")) (rule : MtR X id r) (hm : M1 C.b r m) (ho : PP X C κ1 o fo) (he : PP X C κ2 e fe)
    (hs : starEach [e] X.env = [(false, eval e X.env)] := by rfl) (hbase : attributeBase o name X.env (eval o X.env) = eval o X.env := by rfl) (hline : (apos.endLine == pos.line) = true := by rfl) : PD X C (κ1 + κ2) (.Call (.Attribute o name apos) [e] [] pos) (m1D m fo fe) :=
  pe_mono (pe_m1 slot ty rule ho he hs hbase hline) fun σ H Q ⟨F, ρ, R, rel, hf, q⟩ => ⟨F, ρ, _, rel.lel, hf, fun d hd v H1 e1 p1 => by
    obtain ⟨a, ed, hd⟩ := onS_ok hd
    subst ed
    have := pk_str p1
    subst this
    exact ⟨⟨a, rfl⟩, F, ρ, _, rel.ev e1, hd, fun e he y H2 e2 p2 => hm F H2 a y e R Q e2.hk p2 he fun z hz v H' e3 p3 => q z hz v H' ((e1.trans e2).trans e3) p3⟩⟩
/-- the texts of a list of texts -/
def txtsD : List PyData → Option (List Str)
  | [] => some []
  | .str x :: r => (txtsD r).map (x :: ·)
  | _ :: _ => none
theorem txts_ok {K : PySem.W.Frag} {H : Hp} : ∀ {vs : List V} {ds : List PyData} {ys : List Str}, DpAll K H vs ds → txtsD ds = some ys → vs = ys.map V.str
  | _, _, ys, .nil, e => by cases e; rfl
  | _, _, ys, .cons (d := d) h t, e => by
    cases d with
    | str x =>
      unfold txtsD at e
      cases z : txtsD _ with
      | none => rw [z] at e; cases e
      | some zs =>
        rw [z] at e
        cases e
        cases h
        rw [txts_ok t z]
        rfl
    | _ => cases e
def joinM : Str → PyData → (PyData → Prop) → Prop := fun a e R => onO (itemsD e) fun ds => onO (txtsD ds) fun ys => (ys.map (·.length)).sum + ys.length * a.length ≤ 16777216 ∧ R (.str (Txt.join a ys))
theorem d_join (ho : PP X C κ1 o fo) (he : PP X C κ2 e fe) (hs : starEach [e] X.env = [(false, eval e X.env)] := by rfl) (hbase : attributeBase o "join" X.env (eval o X.env) = eval o X.env := by rfl) (hline : (apos.endLine == pos.line) = true := by rfl) (hK : C.b.K = X.K := by rfl) :
    PD X C (κ1 + κ2) (.Call (.Attribute o "join" apos) [e] [] pos) (m1D joinM fo fe) :=
  d_m1 F.slot_str_join F.type_str_join mt_join (fun F H a y e R Q hk py ho q => by
    obtain ⟨ds, h1, ho⟩ := onO_ok ho
    obtain ⟨ys, h2, h3, h4⟩ := onO_ok ho
    cases e with
    | list es =>
      cases h1
      obtain ⟨p, vs, rfl, sx, ax⟩ := py.list
      have := txts_ok ax h2
      subst this
      exact ⟨a, p, ys, rfl, rfl, .inl (hK ▸ sx), h3, q _ h4 _ H (.refl hk) (.str _)⟩
    | tuple es =>
      cases h1
      obtain ⟨p, vs, rfl, sx, ax⟩ := py.tup
      have := txts_ok ax h2
      subst this
      exact ⟨a, p, ys, rfl, rfl, .inr (hK ▸ sx), h3, q _ h4 _ H (.refl hk) (.str _)⟩
    | _ => cases h1) ho he hs hbase hline
theorem dp_strs {K : PySem.W.Frag} {H : Hp} : ∀ ys : List Str, DpAll K H (ys.map V.str) (ys.map PyData.str)
  | [] => .nil
  | y :: r => .cons (.str y) (dp_strs r)
def splitM : Str → PyData → (PyData → Prop) → Prop := fun a e R => onS e fun b => (b.length == 0) = false ∧ a.length + 2 ≤ sizeLine ∧ R (.list ((Txt.split a b).map .str))
theorem d_split (ho : PP X C κ1 o fo) (he : PP X C κ2 e fe) (hs : starEach [e] X.env = [(false, eval e X.env)] := by rfl) (hbase : attributeBase o "split" X.env (eval o X.env) = eval o X.env := by rfl) (hline : (apos.endLine == pos.line) = true := by rfl) :
    PD X C (κ1 + κ2) (.Call (.Attribute o "split" apos) [e] [] pos) (m1D splitM fo fe) :=
  d_m1 F.slot_str_split F.type_str_split mt_split (fun F H a y e R Q hk py ho q => by
    obtain ⟨b, e1, h2, h3, h4⟩ := onS_ok ho
    subst e1
    have := pk_str py
    subst this
    exact ⟨a, b, rfl, rfl, h2, h3, fun l hl => q _ h4 _ _ (ev_lst hk hl) (new_lst hk hl (dp_strs _))⟩) ho he hs hbase hline
def startsM : Str → PyData → (PyData → Prop) → Prop := fun a e R => onS e fun b => R (.bool (Txt.startswith a b))
theorem d_starts (ho : PP X C κ1 o fo) (he : PP X C κ2 e fe) (hs : starEach [e] X.env = [(false, eval e X.env)] := by rfl) (hbase : attributeBase o "startswith" X.env (eval o X.env) = eval o X.env := by rfl) (hline : (apos.endLine == pos.line) = true := by rfl) :
    PD X C (κ1 + κ2) (.Call (.Attribute o "startswith" apos) [e] [] pos) (m1D startsM fo fe) :=
  d_m1 F.slot_str_startswith F.type_str_startswith mt_startswith (fun F H a y e R Q hk py ho q => by
    obtain ⟨b, e1, h4⟩ := onS_ok ho
    subst e1
    have := pk_str py
    subst this
    exact ⟨a, b, rfl, rfl, q _ h4 _ H (.refl hk) (.bl _)⟩) ho he hs hbase hline
end
/-! ### the feed -/
theorem feed_put {B : Bc} {F : List Addr} {H : Hp} {g : Addr} {cs : List Int} (hk : Hk B F H) (hg : B.g = some g) {κ : Nat} (hl : cs.length = B.n) (h0 : ∀ c ∈ cs, 0 ≤ c) (hpos : B.n = 2 → (cs.headD 0).toNat ≤ posOf B H + κ) : Ev B κ F H (upd H g (.lst (.ref B.sa :: cs.map V.int))) := by
  obtain ⟨m, cs0, x1, x2, x3, x4⟩ := hk.fd g hg
  have keep : ∀ b o, H b = some o → b ≠ g → (upd H g (.lst (.ref B.sa :: cs.map V.int))) b = some o := fun b o e n => by rw [upd_ne n]; exact e
  refine ⟨⟨fun T hT => ?_, fun g' e => ?_, fun a ma => ?_⟩, fun b o e _ n => keep b o e fun z => n (z ▸ hg), ?_⟩
  · obtain ⟨ps, q, r⟩ := hk.tab T hT
    exact ⟨ps, keep _ _ q (fun z => by rw [z, x1] at q; cases q), r⟩
  · rw [hg] at e
    cases e
    exact ⟨m, cs, upd_same, hl, h0, Sub.sql (sub_put m) x4⟩
  · by_cases z : a = g
    · subst z
      exact .inl ⟨_, upd_same⟩
    · exact (hk.trk a ma).keep fun o e _ => keep _ _ e z
  · by_cases n2 : B.n = 2
    · have z := hpos n2
      have : posOf B (upd H g (.lst (.ref B.sa :: cs.map V.int))) = (cs.headD 0).toNat := by
        unfold posOf
        rw [hg]
        show (if B.n = 2 then posAt (upd H g (.lst (.ref B.sa :: cs.map V.int)) g) else 0) = _
        rw [if_pos n2, upd_same]
        cases cs with
        | nil => rfl
        | cons c r => rfl
      omega
    · have : posOf B (upd H g (.lst (.ref B.sa :: cs.map V.int))) = 0 := by
        unfold posOf
        rw [hg]
        exact if_neg n2
      omega
/-- a number is drawn -/
def specTake (most : Int) : List SV → (PyData → Prop) → Prop := fun ss R => match ss with
  | [.feed, .d (.int many)] => 1 ≤ many ∧ many ≤ most ∧ ∀ r : Int, 0 ≤ r → r < many → R (.int r)
  | _ => False
theorem specTake_ok {most : Int} {ss : List SV} {R : PyData → Prop} (h : specTake most ss R) : ∃ many : Int, ss = [.feed, .d (.int many)] ∧ 1 ≤ many ∧ many ≤ most ∧ ∀ r : Int, 0 ≤ r → r < many → R (.int r) := by
  unfold specTake at h
  split at h
  · exact ⟨_, rfl, h⟩
  · exact h.elim
/-- the feed of three numbers (k01 to k18), from its promise over the heap -/
theorem take4 {K : PySem.W.Frag} {Ts : List Addr} {g sa : Addr} {ns : List Int} {vs : List V} {H : Hp} {Q : VK} {E : XK} {κ : Nat} (h : spD ⟨K, Ts, some g, sa, ns, 3⟩ κ (specTake 1000) vs H Q E) : ∃ (g a : Addr) (many : Int) (ns : List Int), vs = [.ref g, .int many] ∧ 1 ≤ many ∧ many ≤ 1000 ∧ NA.Fd K g a ns H ∧ ∀ (r : Int) (p q t : Int), 0 ≤ r → r < many → 0 ≤ p → 0 ≤ q → 0 ≤ t → Q (.int r) (upd H g (NA.fd4 a p q t)) := by
  obtain ⟨F, ss, R, ⟨hk, _⟩, a, ho, q⟩ := h
  obtain ⟨many, rfl, h1, h2, hr⟩ := specTake_ok ho
  cases a with
  | cons a1 a2 =>
    cases a2 with
    | cons a2 a3 =>
      cases a3
      obtain ⟨g', e, rfl⟩ := a1
      cases e
      cases a2
      obtain ⟨m, cs, x1, x2, x3, x4⟩ := hk.fd g rfl
      match cs, x2 with
      | [p, qq, t], _ =>
        refine ⟨g, sa, many, ns, rfl, h1, h2, ⟨⟨p, qq, t, x1, x3 p (by simp), x3 qq (by simp), x3 t (by simp)⟩, fun o => ?_⟩, fun r p' q' t' hr0 hr1 hp hq ht => ?_⟩
        · refine Sub.sql (fun b u y _ => ?_) x4
          obtain ⟨y, ny⟩ := hide_some y
          rw [upd_ne fun z => by rw [z] at ny; exact ny m]
          exact y
        · refine q _ (hr r hr0 hr1) _ _ (feed_put (cs := [p', q', t']) hk rfl rfl (fun c hc => ?_) (fun z => absurd (show (3 : Nat) = 2 from z) (by decide))) (.int r)
          simp only [List.mem_cons, List.mem_nil_iff, or_false] at hc
          rcases hc with rfl | rfl | rfl <;> assumption
end DL
namespace DL
open PySem PySem.Spec PyProof.Rows L2 GX
abbrev subO : D2 := int0 fun i j => i - j
abbrev fdivO : D2 := intO CDiv fun i j => i / j
abbrev modO : D2 := intO (fun _ j => 0 < j) fun i j => i % j
abbrev powO : D2 := intO CPow fun i j => i ^ j.toNat
def cmpI (gi : Int → Int → Bool) (g : PyData → PyData → Bool) : D2 := fun d e R => match d, e with
  | .int i, .int j => R (.bool (gi i j))
  | _, _ => cOrd d e ∧ R (.bool (g d e))
theorem cmpI_in {gi : Int → Int → Bool} {g : PyData → PyData → Bool} {d e : PyData} {R : PyData → Prop} (h : cmpI gi g d e R) : orO (icmpO gi) (cmpO cOrd g) d e R := by
  cases d <;> cases e <;> first | exact .inl ⟨_, _, rfl, rfl, h⟩ | exact .inr h
abbrev eqO : D2 := cmpO cMin PyData.eqv
abbrev neO : D2 := cmpO cMin fun d e => !PyData.eqv d e
abbrev ltO : D2 := cmpI (fun i j => decide (i < j)) fun d e => PySem.W.dataLt d e
abbrev leO : D2 := cmpI (fun i j => decide (i ≤ j)) fun d e => !PySem.W.dataLt e d
abbrev gtO : D2 := cmpI (fun i j => decide (j < i)) fun d e => PySem.W.dataLt e d
abbrev geO : D2 := cmpI (fun i j => decide (j ≤ i)) fun d e => !PySem.W.dataLt d e
def inO : D2 := fun d e R => match e with
  | .str z => onS d fun x => x.cps.size = 1 ∧ R (.bool (decide (x.cps[0]?.getD 0 ∈ z.cps.toList)))
  | _ => cIn d e ∧ R (.bool (inD d e))
def ninO : D2 := fun d e R => match e with
  | .str z => onS d fun x => x.cps.size = 1 ∧ R (.bool (!decide (x.cps[0]?.getD 0 ∈ z.cps.toList)))
  | _ => cIn d e ∧ R (.bool (!inD d e))
theorem one_sign {x : Str} (h : x.cps.size = 1) : x = ⟨#[x.cps[0]?.getD 0]⟩ := by
  obtain ⟨a⟩ := x
  match a, h with
  | ⟨[c]⟩, _ => rfl
theorem in_in {d e : PyData} {R : PyData → Prop} (h : inO d e R) : orO (sgnO false) (cmpO cIn inD) d e R := by
  cases e with
  | str z =>
    obtain ⟨x, rfl, h1, h2⟩ := onS_ok h
    exact .inl ⟨_, z, congrArg PyData.str (one_sign h1), rfl, h2⟩
  | _ => exact .inr h
theorem nin_in {d e : PyData} {R : PyData → Prop} (h : ninO d e R) : orO (sgnO true) (cmpO cIn fun d e => !inD d e) d e R := by
  cases e with
  | str z =>
    obtain ⟨x, rfl, h1, h2⟩ := onS_ok h
    exact .inl ⟨_, z, congrArg PyData.str (one_sign h1), rfl, h2⟩
  | _ => exact .inr h
section
variable {X : Cx} {C : Cc} {k : Nat}
theorem ol_lt (hr : Room k X.A) : OpR X (compareOp .Lt) (fun x y H Q => rI0 (fun i j => .bl (decide (i < j))) x y H Q ∨ rC X.K cOrd PySem.W.dataLt x y H Q) := op_lt.or (op_ltP hr)
theorem ol_le (hr : Room k X.A) : OpR X (compareOp .LtE) (fun x y H Q => rI0 (fun i j => .bl (decide (i ≤ j))) x y H Q ∨ rC X.K cOrd (fun d e => !PySem.W.dataLt e d) x y H Q) := op_le.or (op_leP hr)
theorem ol_gt (hr : Room k X.A) : OpR X (compareOp .Gt) (fun x y H Q => rI0 (fun i j => .bl (decide (j < i))) x y H Q ∨ rC X.K cOrd (fun d e => PySem.W.dataLt e d) x y H Q) := op_gt.or (op_gtP hr)
theorem ol_ge (hr : Room k X.A) : OpR X (compareOp .GtE) (fun x y H Q => rI0 (fun i j => .bl (decide (j ≤ i))) x y H Q ∨ rC X.K cOrd (fun d e => !PySem.W.dataLt d e) x y H Q) := op_ge.or (op_geP hr)
theorem ol_in (hr : Room k X.A) : OpR X (compareOp .In) (fun x y H Q => (∃ (c : Nat) (z : Str), x = .str ⟨#[c]⟩ ∧ y = .str z ∧ Q (.bl (decide (c ∈ z.cps.toList))) H) ∨ rC X.K cIn inD x y H Q) := op_in_sign.or (op_inP hr)
theorem ol_nin (hr : Room k X.A) : OpR X (compareOp .NotIn) (fun x y H Q => (∃ (c : Nat) (z : Str), x = .str ⟨#[c]⟩ ∧ y = .str z ∧ Q (.bl (!decide (c ∈ z.cps.toList))) H) ∨ rC X.K cIn (fun d e => !inD d e) x y H Q) := op_notIn_sign.or (op_notInP hr)
theorem oo_cmp {B : Bc} {gi : Int → Int → Bool} {h : PyData → PyData → Bool} : OD B (fun x y H Q => rI0 (fun i j => .bl (gi i j)) x y H Q ∨ rC B.K cOrd h x y H Q) (cmpI gi h) := (od_icmp.or od_cmp).pre cmpI_in
theorem oo_in {B : Bc} : OD B (fun x y H Q => (∃ (c : Nat) (z : Str), x = .str ⟨#[c]⟩ ∧ y = .str z ∧ Q (.bl (decide (c ∈ z.cps.toList))) H) ∨ rC B.K cIn inD x y H Q) inO := (od_sgn.or od_cmp).pre in_in
theorem oo_nin {B : Bc} : OD B (fun x y H Q => (∃ (c : Nat) (z : Str), x = .str ⟨#[c]⟩ ∧ y = .str z ∧ Q (.bl (!decide (c ∈ z.cps.toList))) H) ∨ rC B.K cIn (fun d e => !inD d e) x y H Q) ninO := (od_nsgn.or od_cmp).pre nin_in
end
end DL

/-! Shapes of promises over data. -/
namespace DL
open PySem PySem.Spec PyProof.Rows L2 GX
abbrev SpecD := List SV → (PyData → Prop) → Prop
def sp1 (k : PyData → (PyData → Prop) → Prop) : SpecD := fun ss R => match ss with
  | [.d d] => k d R
  | _ => False
def sp2 (k : PyData → PyData → (PyData → Prop) → Prop) : SpecD := fun ss R => match ss with
  | [.d d, .d e] => k d e R
  | _ => False
def sp3 (k : PyData → PyData → PyData → (PyData → Prop) → Prop) : SpecD := fun ss R => match ss with
  | [.d d, .d e, .d f] => k d e f R
  | _ => False
def spF0 (k : (PyData → Prop) → Prop) : SpecD := fun ss R => match ss with
  | [.feed] => k R
  | _ => False
def spF1 (k : PyData → (PyData → Prop) → Prop) : SpecD := fun ss R => match ss with
  | [.feed, .d d] => k d R
  | _ => False
theorem sp1_ok {k : PyData → (PyData → Prop) → Prop} {ss : List SV} {R : PyData → Prop} (h : sp1 k ss R) : ∃ d, ss = [.d d] ∧ k d R := by
  unfold sp1 at h
  split at h <;> first | exact ⟨_, rfl, h⟩ | exact h.elim
theorem sp2_ok {k : PyData → PyData → (PyData → Prop) → Prop} {ss : List SV} {R : PyData → Prop} (h : sp2 k ss R) : ∃ d e, ss = [.d d, .d e] ∧ k d e R := by
  unfold sp2 at h
  split at h <;> first | exact ⟨_, _, rfl, h⟩ | exact h.elim
theorem sp3_ok {k : PyData → PyData → PyData → (PyData → Prop) → Prop} {ss : List SV} {R : PyData → Prop} (h : sp3 k ss R) : ∃ d e f, ss = [.d d, .d e, .d f] ∧ k d e f R := by
  unfold sp3 at h
  split at h <;> first | exact ⟨_, _, _, rfl, h⟩ | exact h.elim
theorem spF0_ok {k : (PyData → Prop) → Prop} {ss : List SV} {R : PyData → Prop} (h : spF0 k ss R) : ss = [.feed] ∧ k R := by
  unfold spF0 at h
  split at h <;> first | exact ⟨rfl, h⟩ | exact h.elim
theorem spF1_ok {k : PyData → (PyData → Prop) → Prop} {ss : List SV} {R : PyData → Prop} (h : spF1 k ss R) : ∃ d, ss = [.feed, .d d] ∧ k d R := by
  unfold spF1 at h
  split at h <;> first | exact ⟨_, rfl, h⟩ | exact h.elim
theorem c1 {k : PyData → (PyData → Prop) → Prop} : ∀ ss R, sp1 k ss R → ss.length = 1 := fun ss R h => by obtain ⟨_, rfl, _⟩ := sp1_ok h; rfl
theorem c2 {k : PyData → PyData → (PyData → Prop) → Prop} : ∀ ss R, sp2 k ss R → ss.length = 2 := fun ss R h => by obtain ⟨_, _, rfl, _⟩ := sp2_ok h; rfl
theorem c3 {k : PyData → PyData → PyData → (PyData → Prop) → Prop} : ∀ ss R, sp3 k ss R → ss.length = 3 := fun ss R h => by obtain ⟨_, _, _, rfl, _⟩ := sp3_ok h; rfl
theorem cF0 {k : (PyData → Prop) → Prop} : ∀ ss R, spF0 k ss R → ss.length = 1 := fun ss R h => by obtain ⟨rfl, _⟩ := spF0_ok h; rfl
theorem cF1 {k : PyData → (PyData → Prop) → Prop} : ∀ ss R, spF1 k ss R → ss.length = 2 := fun ss R h => by obtain ⟨_, rfl, _⟩ := spF1_ok h; rfl
/-- a datum is asked, a truth is told -/
abbrev askD (f : PyData → Bool) : SpecD := sp1 fun d R => R (.bool (f d))
theorem ifT {b : Bool} {A B : Prop} (e : b = true) (h : A) : if b = true then A else B := by rw [if_pos e]; exact h
theorem ifF {b : Bool} {A B : Prop} (e : b = false) (h : B) : if b = true then A else B := by rw [e, if_neg Bool.false_ne_true]; exact h
theorem ifNT {b : Bool} {A B : Prop} (e : b = true) (h : B) : if (!b) = true then A else B := by rw [e]; exact h
theorem ifNF {b : Bool} {A B : Prop} (e : b = false) (h : A) : if (!b) = true then A else B := by rw [e]; exact h
/-- both ways of a test -/
theorem ifE {b : Bool} {A B : Prop} (h1 : b = true → A) (h2 : b = false → B) : if b = true then A else B := by
  cases b with
  | true => exact h1 rfl
  | false => exact h2 rfl
theorem ifNE {b : Bool} {A B : Prop} (h1 : b = false → A) (h2 : b = true → B) : if (!b) = true then A else B := by
  cases b with
  | true => exact h2 rfl
  | false => exact h1 rfl
/-! ### places of written lists -/
theorem onAt0 {x : PyData} {r : List PyData} {R : PyData → Prop} (h : R x) : onO (atI (x :: r) 0) R := by rw [show atI (x :: r) 0 = some x from atI_nat (j := 0) rfl]; exact h
theorem onAt1 {x y : PyData} {r : List PyData} {R : PyData → Prop} (h : R y) : onO (atI (x :: y :: r) 1) R := by rw [show atI (x :: y :: r) 1 = some y from atI_nat (j := 1) rfl]; exact h
theorem onAt2 {x y z : PyData} {r : List PyData} {R : PyData → Prop} (h : R z) : onO (atI (x :: y :: z :: r) 2) R := by rw [show atI (x :: y :: z :: r) 2 = some z from atI_nat (j := 2) rfl]; exact h
theorem onAtN {ds : List PyData} {i : Int} {R : PyData → Prop} (h0 : 0 ≤ i) (h1 : i < ds.length) (h : ∀ x ∈ ds, R x) : onO (atI ds i) R := by
  obtain ⟨n, rfl⟩ := Int.eq_ofNat_of_zero_le h0
  have l : n < ds.length := by omega
  rw [atI_nat (j := n) (List.getElem?_eq_getElem l)]
  exact h _ (List.getElem_mem l)
theorem cutD1 {x : PyData} {r : List PyData} : cutD (x :: r) (some 1) none = r := by
  have e : HT.sIx (x :: r).length 0 (some 1) = 1 := by
    rw [show HT.sIx (x :: r).length 0 (some 1) = min 1 (x :: r).length from HT.sIx_nat (x :: r).length 0 1, List.length_cons]
    omega
  unfold cutD
  rw [e, HT.sIx_none]
  show List.take ((x :: r).length - 1) r = r
  rw [List.length_cons, Nat.add_sub_cancel]
  exact List.take_length
theorem cutD_len {ds : List PyData} {lo hi : Option Int} : (cutD ds lo hi).length ≤ ds.length := by
  unfold cutD
  rw [List.length_take, List.length_drop]
  omega
theorem cutD_mem {ds : List PyData} {lo hi : Option Int} {x : PyData} (h : x ∈ cutD ds lo hi) : x ∈ ds := List.mem_of_mem_drop (List.mem_of_mem_take h)
/-! ### all, any, comprehensions of plain steps -/
/-- all(f(x) for x in ds), f told by a def -/
theorem aa_all {f : PyData → Bool} {g : DG} {fe : DE} {ρ : DEnv} {R : PyData → Prop} : ∀ {ds : List PyData}, (∀ d ∈ ds, ∀ Q : PyData → Prop, Q (.bool (f d)) → g d ρ fun ρ' => fe ρ' Q) → R (.bool (ds.all f)) → aaD true (fun d ρ Q => g d ρ Q) yesT fe ρ R ds := by
  intro ds
  induction ds with
  | nil => exact fun _ h => h
  | cons d r ih =>
    intro hs h
    have step := hs d (List.mem_cons_self ..) (fun z => onB z fun c => if c = true then aaD true g yesT fe ρ R r else R (.bool (!true)))
    refine step ?_
    show if f d = true then _ else _
    rw [List.all_cons] at h
    cases e : f d with
    | true =>
      rw [e, Bool.true_and] at h
      rw [if_pos rfl]
      exact ih (fun x hx => hs x (List.mem_cons_of_mem _ hx)) h
    | false =>
      rw [e, Bool.false_and] at h
      rw [if_neg Bool.false_ne_true]
      exact h
/-- [x for x in ds if p(x)] -/
theorem lc_filter {p : PyData → Bool} {i : Nat} {gt : DT} {fe : DE} {ρ : DEnv} {R : List PyData → Prop} : ∀ {ds acc : List PyData}, acc.length + ds.length < sizeLine → (∀ d ∈ ds, ∀ Q : Bool → Prop, Q (p d) → gt (ρ.set i (some (.d d))) Q) → (∀ d ∈ ds, ∀ Q : PyData → Prop, Q d → fe (ρ.set i (some (.d d))) Q) → R (acc ++ ds.filter p) → lcD (gN i) gt fe ρ R ds acc := by
  intro ds
  induction ds with
  | nil => intro acc _ _ _ h; rw [List.filter_nil, List.append_nil] at h; exact h
  | cons d r ih =>
    intro acc hl ht he h
    rw [List.length_cons] at hl
    refine ht d (List.mem_cons_self ..) _ ?_
    show if p d = true then _ else _
    rw [List.filter_cons] at h
    cases e : p d with
    | true =>
      rw [e, if_pos rfl] at h
      rw [if_pos rfl]
      refine he d (List.mem_cons_self ..) _ ⟨by omega, ih (by rw [List.length_append, List.length_singleton]; omega) (fun x hx => ht x (List.mem_cons_of_mem _ hx)) (fun x hx => he x (List.mem_cons_of_mem _ hx)) ?_⟩
      rw [List.append_assoc]
      exact h
    | false =>
      rw [e, if_neg Bool.false_ne_true] at h
      rw [if_neg Bool.false_ne_true]
      exact ih (by omega) (fun x hx => ht x (List.mem_cons_of_mem _ hx)) (fun x hx => he x (List.mem_cons_of_mem _ hx)) h
/-- a loop that keeps J -/
theorem for_keeps {g : DG} {t : DS} {N : DEnds} (J : DEnv → Prop) : ∀ {ds : List PyData}, (∀ d ∈ ds, ∀ ρ, J ρ → g d ρ fun ρ' => ∀ N' : DEnds, (∀ ρ2, J ρ2 → N'.nx ρ2) → (∀ ρ2, J ρ2 → N'.ct ρ2) → (∀ z, N.rt z → N'.rt z) → t N' ρ') → ∀ {ρ}, J ρ → (∀ ρ2, J ρ2 → N.nx ρ2) → (∀ d ∈ ds, ∀ ρ (P Q : DEnv → Prop), (∀ ρ', P ρ' → Q ρ') → g d ρ P → g d ρ Q) → forD g t N ds ρ := by
  intro ds
  induction ds with
  | nil => exact fun _ {ρ} j h _ => h ρ j
  | cons d r ih =>
    intro hs ρ j h mono
    have z := hs d (List.mem_cons_self ..) ρ j
    refine mono d (List.mem_cons_self ..) ρ _ _ (fun ρ' hρ => ?_) z
    refine hρ _ (fun ρ2 j2 => ?_) (fun ρ2 j2 => ?_) fun z h => h
    · exact ih (fun x hx => hs x (List.mem_cons_of_mem _ hx)) j2 h fun x hx => mono x (List.mem_cons_of_mem _ hx)
    · exact ih (fun x hx => hs x (List.mem_cons_of_mem _ hx)) j2 h fun x hx => mono x (List.mem_cons_of_mem _ hx)
end DL

/-! Data that are small; slices; odd and bent things. -/
namespace DL
open PySem PySem.Spec PyProof.Rows L2 GX
mutual
/-- numbers of some forty figures, short texts, short rows -/
def fitD (a : Nat) : PyData → Bool
  | .none => true
  | .bool _ => true
  | .int i => decide (i.natAbs ≤ 10 ^ 40 + a)
  | .str x => decide (x.length ≤ 200)
  | .list xs => decide (xs.length ≤ 100 + a) && fitAll a xs
  | .tuple xs => decide (xs.length ≤ 100 + a) && fitAll a xs
  | .dict _ => false
def fitAll (a : Nat) : List PyData → Bool
  | [] => true
  | x :: r => fitD a x && fitAll a r
end
theorem fitAll_iff {a : Nat} : ∀ {ds : List PyData}, fitAll a ds = true ↔ ∀ d ∈ ds, fitD a d = true
  | [] => ⟨fun _ _ h => (nomatch h), fun _ => rfl⟩
  | x :: r => by
    show (fitD a x && fitAll a r) = true ↔ _
    rw [Bool.and_eq_true, fitAll_iff, List.forall_mem_cons]
theorem fit_tup {a : Nat} {ds : List PyData} : fitD a (.tuple ds) = true ↔ ds.length ≤ 100 + a ∧ ∀ d ∈ ds, fitD a d = true := by
  show (decide (ds.length ≤ 100 + a) && fitAll a ds) = true ↔ _
  rw [Bool.and_eq_true, fitAll_iff, decide_eq_true_iff]
theorem fit_lst {a : Nat} {ds : List PyData} : fitD a (.list ds) = true ↔ ds.length ≤ 100 + a ∧ ∀ d ∈ ds, fitD a d = true := by
  show (decide (ds.length ≤ 100 + a) && fitAll a ds) = true ↔ _
  rw [Bool.and_eq_true, fitAll_iff, decide_eq_true_iff]
mutual
theorem fit_mono {a b : Nat} (h : a ≤ b) : ∀ {d : PyData}, fitD a d = true → fitD b d = true
  | .none, _ => rfl
  | .bool _, _ => rfl
  | .int i, z => decide_eq_true (Nat.le_trans (of_decide_eq_true z) (Nat.add_le_add_left h _))
  | .str x, z => z
  | .list xs, z => by
    have z := Bool.and_eq_true_iff.mp (show (decide (xs.length ≤ 100 + a) && fitAll a xs) = true from z)
    show (decide (xs.length ≤ 100 + b) && fitAll b xs) = true
    rw [fitAll_mono h z.2, decide_eq_true (Nat.le_trans (of_decide_eq_true z.1) (Nat.add_le_add_left h _))]
    rfl
  | .tuple xs, z => by
    have z := Bool.and_eq_true_iff.mp (show (decide (xs.length ≤ 100 + a) && fitAll a xs) = true from z)
    show (decide (xs.length ≤ 100 + b) && fitAll b xs) = true
    rw [fitAll_mono h z.2, decide_eq_true (Nat.le_trans (of_decide_eq_true z.1) (Nat.add_le_add_left h _))]
    rfl
  | .dict _, z => by cases z
theorem fitAll_mono {a b : Nat} (h : a ≤ b) : ∀ {ds : List PyData}, fitAll a ds = true → fitAll b ds = true
  | [], _ => rfl
  | x :: r, z => by
    have z := Bool.and_eq_true_iff.mp (show (fitD a x && fitAll a r) = true from z)
    show (fitD b x && fitAll b r) = true
    rw [fit_mono h z.1, fitAll_mono h z.2]
    rfl
end
theorem depth_all {k : Nat} : ∀ {ds : List PyData}, PyData.depthAll ds ≤ k ↔ ∀ d ∈ ds, d.depth ≤ k
  | [] => ⟨fun _ _ h => (nomatch h), fun _ => Nat.zero_le _⟩
  | x :: r => by
    show max (PyData.depth x) (PyData.depthAll r) ≤ k ↔ _
    rw [Nat.max_le, depth_all, List.forall_mem_cons]
theorem depth_tup {k : Nat} {ds : List PyData} : (PyData.tuple ds).depth ≤ k + 1 ↔ ∀ d ∈ ds, d.depth ≤ k := by
  show PyData.depthAll ds + 1 ≤ k + 1 ↔ _
  rw [Nat.add_le_add_iff_right, depth_all]
theorem depth_lst {k : Nat} {ds : List PyData} : (PyData.list ds).depth ≤ k + 1 ↔ ∀ d ∈ ds, d.depth ≤ k := by
  show PyData.depthAll ds + 1 ≤ k + 1 ↔ _
  rw [Nat.add_le_add_iff_right, depth_all]
/-- small, and how deep -/
def Fit (a k : Nat) (d : PyData) : Prop := fitD a d = true ∧ d.depth ≤ k
theorem Fit.mono {a b k m : Nat} {d : PyData} (h : Fit a k d) (h1 : a ≤ b) (h2 : k ≤ m) : Fit b m d := ⟨fit_mono h1 h.1, Nat.le_trans h.2 h2⟩
theorem Fit.tup {a k : Nat} {ds : List PyData} : Fit a (k + 1) (.tuple ds) ↔ ds.length ≤ 100 + a ∧ ∀ d ∈ ds, Fit a k d := by
  unfold Fit
  rw [fit_tup, depth_tup]
  exact ⟨fun h => ⟨h.1.1, fun d m => ⟨h.1.2 d m, h.2 d m⟩⟩, fun h => ⟨⟨h.1, fun d m => (h.2 d m).1⟩, fun d m => (h.2 d m).2⟩⟩
theorem Fit.lst {a k : Nat} {ds : List PyData} : Fit a (k + 1) (.list ds) ↔ ds.length ≤ 100 + a ∧ ∀ d ∈ ds, Fit a k d := by
  unfold Fit
  rw [fit_lst, depth_lst]
  exact ⟨fun h => ⟨h.1.1, fun d m => ⟨h.1.2 d m, h.2 d m⟩⟩, fun h => ⟨⟨h.1, fun d m => (h.2 d m).1⟩, fun d m => (h.2 d m).2⟩⟩
theorem fit_non {a k : Nat} : Fit a k .none := ⟨rfl, Nat.zero_le _⟩
theorem fit_bl {a k : Nat} {b : Bool} : Fit a k (.bool b) := ⟨rfl, Nat.zero_le _⟩
theorem fit_int {a k : Nat} {i : Int} (h : i.natAbs ≤ 10 ^ 40 + a) : Fit a k (.int i) := ⟨decide_eq_true h, Nat.zero_le _⟩
theorem fit_str {a k : Nat} {x : Str} (h : x.length ≤ 200) : Fit a k (.str x) := ⟨decide_eq_true h, Nat.zero_le _⟩
theorem Fit.int {a k : Nat} {i : Int} (h : Fit a k (.int i)) : i.natAbs ≤ 10 ^ 40 + a := of_decide_eq_true h.1
theorem Fit.str {a k : Nat} {x : Str} (h : Fit a k (.str x)) : x.length ≤ 200 := of_decide_eq_true h.1
theorem Fit.deep {a : Nat} {ds : List PyData} : ¬ Fit a 0 (.tuple ds) := fun h => by
  have := h.2
  have e : (PyData.tuple ds).depth = PyData.depthAll ds + 1 := rfl
  omega
theorem small_line : 1000 ≤ sizeLine := by decide
/-! ### slices -/
theorem cutD_to {ds : List PyData} (k : Nat) : cutD ds none (some (k : Int)) = ds.take k := by
  unfold cutD
  rw [HT.sIx_none, HT.sIx_nat, List.drop_zero, Nat.sub_zero]
  rcases Nat.le_total k ds.length with h | h
  · rw [Nat.min_eq_left h]
  · rw [Nat.min_eq_right h, List.take_length, List.take_of_length_le h]
theorem cutD_from {ds : List PyData} (k : Nat) : cutD ds (some (k : Int)) none = ds.drop k := by
  unfold cutD
  rw [HT.sIx_none, HT.sIx_nat]
  rcases Nat.le_total k ds.length with h | h
  · rw [Nat.min_eq_left h, List.take_of_length_le (by rw [List.length_drop]; omega)]
  · rw [Nat.min_eq_right h, List.drop_length, List.drop_of_length_le h, List.take_nil]
/-! ### numbers as texts -/
theorem log_of {i : Int} {n : Nat} (h : i.natAbs < 10 ^ n) (hn : n ≤ 500) : i.natAbs.log2 < 1920 := by
  by_cases z : i.natAbs = 0
  · rw [z]
    decide
  · refine (Nat.log2_lt z).mpr (Nat.lt_of_lt_of_le h ?_)
    calc 10 ^ n ≤ 10 ^ 500 := Nat.pow_le_pow_right (by decide) hn
      _ ≤ 2 ^ 1920 := by decide +kernel
theorem text_len {i : Int} (h : i.natAbs ≤ 10 ^ 40 + 1000) : i.natAbs.log2 < 1920 ∧ (Str.ofString (toString i)).length ≤ 200 := by
  have l : i.natAbs < 10 ^ 41 := Nat.lt_of_le_of_lt h (by decide +kernel)
  refine ⟨log_of l (by decide), ?_⟩
  have z : (toString i).length ≤ 41 + 1 := PySem.int_text_length_le10 (by decide) l
  rw [PySem.ofString_length]
  exact Nat.le_trans z (by decide)
end DL
namespace DL
open PySem PySem.Spec PyProof.Rows L2 GX
/-- [e for x in ds], each item such that P -/
theorem lc_each {P : PyData → Prop} {i : Nat} {fe : DE} {ρ : DEnv} {R : List PyData → Prop} : ∀ {ds acc : List PyData}, acc.length + ds.length < sizeLine → (∀ z ∈ acc, P z) → (∀ d ∈ ds, ∀ Q : PyData → Prop, (∀ z, P z → Q z) → fe (ρ.set i (some (.d d))) Q) →
    (∀ zs : List PyData, zs.length = acc.length + ds.length → (∀ z ∈ zs, P z) → R zs) → lcD (gN i) yesT fe ρ R ds acc := by
  intro ds
  induction ds with
  | nil => exact fun _ ha _ h => h _ rfl ha
  | cons d r ih =>
    intro acc hl ha he h
    rw [List.length_cons] at hl h
    refine he d (List.mem_cons_self ..) _ fun z hz => ⟨by omega, ih (by rw [List.length_append, List.length_singleton]; omega) (fun y hy => ?_) (fun x hx => he x (List.mem_cons_of_mem _ hx)) fun zs l m => h zs (by rw [l, List.length_append, List.length_singleton]; omega) m⟩
    rcases List.mem_append.mp hy with hy | hy
    · exact ha y hy
    · rw [List.mem_singleton.mp hy]
      exact hz
theorem txts_of {P : Str → Prop} : ∀ {zs : List PyData}, (∀ z ∈ zs, ∃ x, z = .str x ∧ P x) → ∃ ys : List Str, txtsD zs = some ys ∧ ys.length = zs.length ∧ ∀ y ∈ ys, P y
  | [], _ => ⟨[], rfl, rfl, fun _ m => (nomatch m)⟩
  | z :: r, h => by
    obtain ⟨x, rfl, p⟩ := h z (List.mem_cons_self ..)
    obtain ⟨ys, e, l, q⟩ := txts_of fun y hy => h y (List.mem_cons_of_mem _ hy)
    refine ⟨x :: ys, ?_, by rw [List.length_cons, List.length_cons, l], fun y hy => ?_⟩
    · show (txtsD r).map (x :: ·) = _
      rw [e]
      rfl
    · rcases List.mem_cons.mp hy with rfl | hy
      · exact p
      · exact q y hy
theorem sum_le {n : Nat} : ∀ {ys : List Str}, (∀ y ∈ ys, y.length ≤ n) → (ys.map (·.length)).sum ≤ ys.length * n
  | [], _ => Nat.zero_le _
  | y :: r, h => by
    rw [List.map_cons, List.sum_cons, List.length_cons, Nat.succ_mul]
    have h1 := h y (List.mem_cons_self ..)
    have h2 := sum_le fun x hx => h x (List.mem_cons_of_mem _ hx)
    omega
theorem joinL_len (S : List Nat) : ∀ ps : List (List Nat), (TL.joinL S ps).length ≤ (ps.map (·.length)).sum + ps.length * S.length
  | [] => Nat.zero_le _
  | [p] => by
    show p.length ≤ p.length + 0 + 1 * S.length
    omega
  | p :: q :: r => by
    have ih := joinL_len S (q :: r)
    show (p ++ (S ++ TL.joinL S (q :: r))).length ≤ _
    rw [List.length_append, List.length_append, List.map_cons, List.sum_cons, List.length_cons, Nat.succ_mul]
    omega
theorem join_len (a : Str) (ys : List Str) : (Txt.join a ys).length ≤ (ys.map (·.length)).sum + ys.length * a.length := by
  rw [TL.join_eq]
  have e := congrArg List.length (TL.tl_join a ys)
  have z := joinL_len (TL.tl a) (ys.map TL.tl)
  have t : ∀ x : Str, (TL.tl x).length = x.length := fun x => by
    show x.cps.toList.length = x.cps.size
    exact Array.length_toList
  rw [List.map_map, List.length_map, t a] at z
  rw [t] at e
  have s : (ys.map ((fun p => List.length p) ∘ TL.tl)) = ys.map (·.length) := List.map_congr_left fun y _ => t y
  rw [s] at z
  exact Nat.le_trans (Nat.le_of_eq e) z
/-- both are shown alike -/
theorem shown_bl (b : Bool) : (PyData.bool b).showable = true ∧ (PyData.bool b).depth ≤ 100 ∧ (PyData.bool b).shown.length ≤ sizeLine := by cases b <;> exact ⟨rfl, Nat.zero_le _, by decide⟩
theorem eqv_str (x : Str) : PyData.eqv (.str x) (.str x) = true := PySem.SeqAt.eqv_refl_plain _ rfl
end DL

/-! Texts: f-strings, a text some times, split; max, abs. -/
namespace DL
open PySem PySem.Spec PyProof.Rows L2 GX
section
variable {X : Cx} {C : Cc} {e a b : Expr} {f fa fb : DE} {pos p : Pos}
/-! ### f-strings -/
abbrev DJs := DEnv → (Str → Prop) → Prop
def tJ (C : Cc) (κ : Nat) (f : DJs) : TE := fun σ H Q => ∃ F ρ R, Rel C κ F σ H ρ ∧ f ρ R ∧ ∀ y, R y → ∀ H', Ev C.b κ F H H' → Q (.str y) H'
def fmtD (f : DE) : DJs := fun ρ R => f ρ fun d => match d with
  | .str y => y.length ≤ sizeLine ∧ R y
  | .int i => i.natAbs.log2 < 1920 ∧ R (toString i)
  | _ => False
def conD (x : Str) : DJs := fun _ R => R x
theorem j_fmt (h : PP X C 0 e f) : PE X (.FormattedValue e (-1) none pos) (tJ C 0 (fmtD f)) := pe_mono (pe_fmt h) fun σ H Q ⟨F, ρ, R, rel, hf, q⟩ => ⟨F, ρ, _, rel, hf, fun d hd v H1 e1 p1 => by
  cases d with
  | str y => exact .inl ⟨y, pk_str p1, hd.1, q _ hd.2 H1 e1⟩
  | int i => exact .inr ⟨i, pk_int p1, hd.1, q _ hd.2 H1 e1⟩
  | _ => exact hd.elim⟩
theorem j_con {x : Str} {k : Nat} : PE X (.Constant (.str x) k pos) (tJ C 0 (conD x)) := pe_mono pe_str fun σ H Q ⟨F, ρ, R, rel, hf, q⟩ => q _ hf H (.refl rel.hk)
def jsD : List DJs → Str → DEnv → (Str → Prop) → Prop
  | [], acc, _, R => R acc
  | f :: fs, acc, ρ, R => f ρ fun y => (acc ++ y).length ≤ sizeLine ∧ jsD fs (acc ++ y) ρ R
theorem js_ok : ∀ (fs : List DJs) (acc : Str) {σ : L2.St} {H : Hp} {F : List Addr} {ρ : DEnv} {R : Str → Prop} {Q : Str → Hp → Prop}, Rel C 0 F σ H ρ → jsD fs acc ρ R → (∀ y, R y → ∀ H', Ev C.b 0 F H H' → Q y H') → tJs (fs.map (tJ C 0)) acc σ H Q
  | [], acc, σ, H, F, ρ, R, Q, rel, h, q => q acc h H (.refl rel.hk)
  | f :: fs, acc, σ, H, F, ρ, R, Q, rel, h, q => ⟨F, ρ, _, rel, h, fun y ⟨hl, hy⟩ H1 e1 => ⟨y, rfl, hl, js_ok fs (acc ++ y) (rel.ev0 e1) hy fun z hz H2 e2 => q z hz H2 (e1.trans e2)⟩⟩
def joinedD (fs : List DJs) : DE := fun ρ R => jsD fs Str.empty ρ fun s => R (.str s)
theorem d_joined {v1 v2 : Expr} {rest : List Expr} {fs : List DJs} (h : PJ X (v1 :: v2 :: rest) (fs.map (tJ C 0))) : PD X C 0 (.JoinedStr (v1 :: v2 :: rest) pos) (joinedD fs) :=
  pe_mono (pe_joined h) fun σ H Q ⟨F, ρ, R, rel, hf, q⟩ => js_ok fs Str.empty rel hf fun y hy H' ev => q _ hy _ H' ev (.str y)
/-! ### max, abs -/
def absO : PyData → (PyData → Prop) → Prop := fun d R => onI d fun i => R (.int (if i < 0 then -i else i))
theorem d_abs (hg : Gl X "abs") (hm : X.mg "abs" = none) (ha : PP X C κ e f) (he : starEach [e] X.env = (false, eval e X.env) :: starEach [] X.env := by rfl) : PD X C κ (.Call (.Name "abs" p) [e] [] pos) (b1D absO f) :=
  d_b1 call_abs (fun F H x d R Q hk px ho q => by
    obtain ⟨i, e, h1⟩ := onI_ok ho
    subst e
    exact ⟨i, by rw [pk_int px], q _ h1 _ H (.refl hk) (.int _)⟩) hg hm (by decide +kernel) ha (by decide) (by decide) he
def max2D (fa fb : DE) : DE := fun ρ R => fa ρ fun d => fb ρ fun e => onI d fun i => onI e fun j => R (.int (if j > i then j else i))
theorem d_max2 (hc : X.calm = true) (hg : Gl X "max") (hm : X.mg "max" = none) (ha : PP X C κ1 a fa) (hb : PP X C κ2 b fb) (he : starEach [a, b] X.env = (false, eval a X.env) :: starEach [b] X.env := by rfl) (he2 : starEach [b] X.env = (false, eval b X.env) :: starEach [] X.env := by rfl) (hpl : (backTo pos (starEach [b] X.env)).any (·.1) = false := by rfl) : PD X C (κ1 + κ2) (.Call (.Name "max" p) [a, b] [] pos) (max2D fa fb) :=
  pe_mono (pe_callB (call_max2 hc) hg hm (by decide +kernel) (pa_cons ha (pa_cons hb pa_nil he2) he) (by decide) (by decide) he hpl) fun σ H Q ⟨F, ρ, R, rel, hf, q⟩ => ⟨F, ρ, _, rel.lel, hf, fun d hd v H1 e1 p1 => ⟨F, ρ, _, rel.ev e1, hd, fun e he w H2 e2 p2 => by
    obtain ⟨i, ei, h1⟩ := onI_ok he
    obtain ⟨j, ej, h2⟩ := onI_ok h1
    subst ei ej
    exact ⟨i, j, by rw [pk_int p1, pk_int p2], q _ h2 _ H2 (e1.trans e2) (.int _)⟩⟩⟩
end
/-! ### split -/
theorem spl_len (S : List Nat) : ∀ (xs : List Nat) (sk : Nat) (cur : List Nat), ∀ p ∈ TL.spl S sk cur xs, p.length ≤ cur.length + xs.length
  | [], sk, cur, p, h => by
    have e : TL.spl S sk cur [] = [cur] := by cases sk <;> rfl
    rw [e, List.mem_singleton] at h
    rw [h]
    omega
  | c :: r, 0, cur, p, h => by
    rw [List.length_cons]
    have e : TL.spl S 0 cur (c :: r) = if TL.pre S (c :: r) = true then cur :: TL.spl S (S.length - 1) [] r else TL.spl S 0 (cur ++ [c]) r := rfl
    rw [e] at h
    split at h
    · rcases List.mem_cons.mp h with rfl | h
      · omega
      · have := spl_len S r _ [] p h
        simp only [List.length_nil] at this
        omega
    · have := spl_len S r _ _ p h
      rw [List.length_append, List.length_singleton] at this
      omega
  | c :: r, k + 1, cur, p, h => by
    have := spl_len S r k cur p h
    rw [List.length_cons]
    omega
theorem split_part {x y : Str} (hy : TL.tl y ≠ []) (hk : y.cps.all (· < 256) = true) : ∀ p ∈ Txt.split x y, p.length ≤ x.length := fun p hp => by
  have e := TL.split_spl x y hy (TL.kind_ok hk)
  have m : TL.tl p ∈ (Txt.split x y).map TL.tl := List.mem_map.mpr ⟨p, hp, rfl⟩
  rw [e] at m
  have := spl_len (TL.tl y) (TL.tl x) 0 [] _ m
  have t : ∀ z : Str, (TL.tl z).length = z.length := fun z => by
    show z.cps.toList.length = z.cps.size
    exact Array.length_toList
  rw [t, t] at this
  simpa using this
/-! ### a text some times -/
def repS (x : Str) (n : Nat) : Str := ⟨(List.replicate n x.cps).foldl (· ++ ·) #[]⟩
theorem fold_size (a : Array Nat) : ∀ (n : Nat) (acc : Array Nat), ((List.replicate n a).foldl (· ++ ·) acc).size = acc.size + n * a.size
  | 0, acc => by simp
  | n + 1, acc => by
    rw [List.replicate_succ, List.foldl_cons, fold_size a n, Array.size_append, Nat.succ_mul]
    omega
theorem repS_len (x : Str) (n : Nat) : (repS x n).length = n * x.length := by
  show ((List.replicate n x.cps).foldl (· ++ ·) #[]).size = _
  rw [fold_size]
  show 0 + _ = _
  rw [Nat.zero_add]
  rfl
theorem op_repS {X : Cx} : OpR X (binaryOp .Mult) (fun x y H Q => ∃ (z : Str) (k : Int), x = .str z ∧ y = .int k ∧ 0 ≤ k ∧ k ≤ 1000 ∧ 0 < z.length ∧ z.length ≤ 1000 ∧ Q (.str (repS z k.toNat)) H) := by
  intro pins s σ H x y v u Q I rx ry ⟨z, k, ex, ey, h0, h1, z0, z1, q⟩
  subst ex ey
  obtain ⟨t, rfl⟩ := rx
  obtain ⟨t', rfl⟩ := ry
  have fit : (repS z k.toNat).length ≤ sizeLine := by
    rw [repS_len]
    exact Nat.le_trans (Nat.mul_le_mul (show k.toNat ≤ 1000 by omega) z1) (by decide)
  have prod : k.toNat * z.length ≤ 1000 * 1000 := Nat.mul_le_mul (by omega) z1
  refine PySem.P.mul_str ?_ (fun k1 _ => ?_) (fun _ _ => ?_) ?_
  · rw [decide_eq_false (by omega), decide_eq_false (by omega)]
    rfl
  · have kp : 0 < k := by omega
    have m : (z.length : Int) * k ≤ 1000 * 1000 := Int.mul_le_mul (by omega) h1 (by omega) (by decide)
    have := Int.le_ediv_of_mul_le kp (show (z.length : Int) * k ≤ 2 ^ 63 - 1 by omega)
    omega
  · unfold PySem.Builtin.Str.tooLong
    rw [Nat.mul_comm]
    exact decide_eq_false (Nat.not_lt.mpr (Nat.le_trans prod (by decide)))
  · have fin : ∀ (y : Str) (tk : Nat), Q (.str y) H → EP X pins σ Q (.str y tk) { s with toks := tk + 1 } := fun y tk h => ⟨.str y, H, I.tok _, ⟨_, rfl⟩, h⟩
    by_cases k1 : k < 1
    · rw [if_pos k1]
      have e : repS z k.toNat = Str.empty := by
        rw [show k.toNat = 0 by omega]
        rfl
      rw [e] at q
      exact ⟨by decide, fin _ _ q⟩
    · rw [if_neg k1]
      by_cases k2 : k = 1
      · subst k2
        rw [if_pos (by rfl)]
        have e : repS z (1 : Int).toNat = z := by
          show (⟨#[] ++ z.cps⟩ : Str) = z
          rw [Array.empty_append]
        rw [e] at q
        exact ⟨.str z, H, I, ⟨_, rfl⟩, q⟩
      · have c : (k == 1 || z.length == 0) = false := by
          rw [beq_eq_false_iff_ne.mpr k2, Bool.false_or]
          exact beq_eq_false_iff_ne.mpr (by omega)
        rw [c, if_neg Bool.false_ne_true]
        exact ⟨fit, fin _ _ q⟩
def mulS : D2 := fun d e R => match d with
  | .str z => onI e fun k => 0 ≤ k ∧ k ≤ 1000 ∧ 0 < z.length ∧ z.length ≤ 1000 ∧ R (.str (repS z k.toNat))
  | _ => mulO d e R
theorem d_mulS {X : Cx} {C : Cc} {a b : Expr} {fa fb : DE} {pos : Pos} (ha : PP X C κ1 a fa) (hb : PP X C κ2 b fb) (hK : C.b.K = X.K := by rfl) : PD X C (κ1 + κ2) (.BinOp a .Mult b pos) (oD mulS fa fb) := by
  refine d_op (op_repS.or (op_mul.or op_repA)) ?_ ha hb
  rw [← hK]
  intro F H x y d e R Q hk px py ho q
  cases d with
  | str z =>
    obtain ⟨k, rfl, ho⟩ := onI_ok ho
    exact .inl ⟨z, k, pk_str px, pk_int py, ho.1, ho.2.1, ho.2.2.1, ho.2.2.2.1, q _ ho.2.2.2.2 _ H (.refl hk) (.str _)⟩
  | _ => exact .inr ((od_int.or od_tupRep).pre mul_in F H x y _ e R Q hk px py ho q)
end DL

/-! Numbers read from texts. -/
namespace DL
open PySem PySem.Spec PyProof.Rows L2 GX
abbrev cps (x : Str) : List Nat := x.cps.toList
theorem cps_len (x : Str) : (cps x).length = x.length := Array.length_toList
theorem cps_ext {x y : Str} (h : cps x = cps y) : x = y := PySem.W.str_of_cps h
theorem beq_cps (x y : Str) : PyData.eqv (.str x) (.str y) = decide (cps x = cps y) := by
  by_cases h : cps x = cps y
  · rw [cps_ext h, decide_eq_true rfl]
    exact eqv_str y
  · rw [decide_eq_false h]
    show (x == y) = false
    exact beq_eq_false_iff_ne.mpr fun e => h (by rw [e])
theorem starts1 (x : Str) (c : Nat) : Txt.startswith x ⟨#[c]⟩ = ((cps x).head? == some c) := by
  obtain ⟨⟨l⟩⟩ := x
  cases l with
  | nil => rfl
  | cons a r =>
    show (decide (0 + 1 ≤ (a :: r).length) && ((⟨a :: r⟩ : Array Nat).extract 0 1 == #[c])) = _
    have e : (⟨a :: r⟩ : Array Nat).extract 0 1 = #[a] := by
      apply Array.ext'
      simp
    rw [e, List.length_cons, decide_eq_true (by omega), Bool.true_and]
    show (#[a] == #[c]) = (some a == some c)
    by_cases h : a = c
    · subst h
      simp
    · simp [h]
theorem cut_list {l : List Nat} (k : Nat) : (l.drop (HT.sIx l.length 0 (some (k : Int)))).take (HT.sIx l.length l.length none - HT.sIx l.length 0 (some (k : Int))) = l.drop k := by
  rw [HT.sIx_none, HT.sIx_nat]
  rcases Nat.le_total k l.length with h | h
  · rw [Nat.min_eq_left h, List.take_of_length_le (by rw [List.length_drop]; omega)]
  · rw [Nat.min_eq_right h, List.drop_length, List.drop_of_length_le h, List.take_nil]
theorem cutS_from (x : Str) (k : Nat) : cps (cutS x (some (k : Int)) none) = (cps x).drop k := by
  show ((cps x).drop (HT.sIx x.length 0 (some (k : Int)))).take (HT.sIx x.length x.length none - HT.sIx x.length 0 (some (k : Int))) = _
  rw [← cps_len x]
  exact cut_list k
theorem cutS_to (x : Str) (k : Nat) : cps (cutS x none (some (k : Int))) = (cps x).take k := by
  show ((cps x).drop (HT.sIx x.length 0 none)).take (HT.sIx x.length x.length (some (k : Int)) - HT.sIx x.length 0 none) = _
  rw [← cps_len x, HT.sIx_none, HT.sIx_nat, List.drop_zero, Nat.sub_zero]
  rcases Nat.le_total k (cps x).length with h | h
  · rw [Nat.min_eq_left h]
  · rw [Nat.min_eq_right h, List.take_length, List.take_of_length_le h]
/-- a figure -/
abbrev FIG : Str := "0123456789"
def dg (c : Nat) : Bool := decide (c ∈ cps FIG)
theorem dg_iff {c : Nat} : dg c = true ↔ 48 ≤ c ∧ c ≤ 57 := by
  have e : cps FIG = [48, 49, 50, 51, 52, 53, 54, 55, 56, 57] := by decide
  unfold dg
  rw [e, decide_eq_true_iff]
  simp only [List.mem_cons, List.mem_nil_iff, or_false]
  omega
/-- without a - ahead -/
def figL (l : List Nat) : List Nat := if (l.head? == some 45) = true then l.drop 1 else l
def numOk (l : List Nat) : Bool := decide (1 ≤ (figL l).length) && (decide ((figL l).length ≤ 40) && ((figL l).all dg && !(((figL l).head? == some 48) && !decide (l = [48]))))
def numD (x : Str) : PyData := if numOk (cps x) = true then (match PySem.intText? x with | some n => .int n | none => .none) else .none
theorem digits_lt : ∀ (cs : List Nat) (acc : Nat), (∀ c ∈ cs, 48 ≤ c ∧ c ≤ 57) → cs.foldl (fun acc c => acc * 10 + (c - 48)) acc < (acc + 1) * 10 ^ cs.length
  | [], acc, _ => by simp
  | c :: r, acc, h => by
    rw [List.foldl_cons, List.length_cons, Nat.pow_succ]
    have hc := h c (List.mem_cons_self ..)
    have ih := digits_lt r (acc * 10 + (c - 48)) fun x hx => h x (List.mem_cons_of_mem _ hx)
    refine Nat.lt_of_lt_of_le ih ?_
    calc (acc * 10 + (c - 48) + 1) * 10 ^ r.length ≤ ((acc + 1) * 10) * 10 ^ r.length := Nat.mul_le_mul_right _ (by omega)
      _ = (acc + 1) * (10 ^ r.length * 10) := by rw [Nat.mul_assoc, Nat.mul_comm 10]
theorem numOk_int {x : Str} (h : numOk (cps x) = true) : ∃ n, PySem.intText? x = some n ∧ n.natAbs < 10 ^ 40 ∧ x.length ≤ 41 := by
  unfold numOk at h
  rw [Bool.and_eq_true, Bool.and_eq_true, Bool.and_eq_true] at h
  obtain ⟨h1, h2, h3, _⟩ := h
  have h1 := of_decide_eq_true h1
  have h2 := of_decide_eq_true h2
  have dig : ∀ c ∈ figL (cps x), 48 ≤ c ∧ c ≤ 57 := fun c hc => dg_iff.mp (List.all_eq_true.mp h3 c hc)
  have big : ∀ cs : List Nat, (∀ c ∈ cs, 48 ≤ c ∧ c ≤ 57) → cs.length ≤ 40 → NumText.digitsVal cs < 10 ^ 40 := fun cs hc hl => by
    have := digits_lt cs 0 hc
    rw [Nat.zero_add, Nat.one_mul] at this
    exact Nat.lt_of_lt_of_le this (Nat.pow_le_pow_right (by decide) hl)
  unfold figL at dig h1 h2
  split at dig
  · rename_i e
    rw [if_pos e] at h1 h2
    cases z : cps x with
    | nil => rw [z] at e; cases e
    | cons a r =>
      rw [z] at e dig h1 h2
      have ea : a = 45 := by
        have : (some a == some 45) = true := e
        simpa using this
      subst ea
      have l : x.length = r.length + 1 := by rw [← cps_len, z, List.length_cons]
      have r40 : r.length ≤ 40 := h2
      refine ⟨_, intText_neg (cs := r) z dig (fun e => by rw [e] at h1; exact absurd h1 (by decide)) (by omega), ?_, by omega⟩
      rw [Int.natAbs_neg, Int.natAbs_natCast]
      exact big r dig r40
  · rename_i e
    rw [if_neg e] at h1 h2
    have l := cps_len x
    refine ⟨_, intText_digits dig (fun e => by rw [show cps x = [] from e] at h1; exact absurd h1 (by decide)) (by omega), ?_, by omega⟩
    rw [Int.natAbs_natCast]
    exact big _ dig h2
/-- a number, or None -/
theorem numD_cases (x : Str) : (numD x = .none) ∨ ∃ n : Int, numD x = .int n ∧ n.natAbs < 10 ^ 40 := by
  unfold numD
  by_cases h : numOk (cps x) = true
  · obtain ⟨n, e, l, _⟩ := numOk_int h
    rw [if_pos h, e]
    exact .inr ⟨n, rfl, l⟩
  · rw [if_neg h]
    exact .inl rfl
theorem numD_int {x : Str} {R : PyData → Prop} (h : numOk (cps x) = true) (q : R (numD x)) : x.length ≤ 640 ∧ onO (PySem.intText? x) fun n => R (.int n) := by
  obtain ⟨n, e, _, l⟩ := numOk_int h
  unfold numD at q
  rw [if_pos h, e] at q
  rw [e]
  exact ⟨by omega, q⟩
theorem numD_no {x : Str} {R : PyData → Prop} (h : numOk (cps x) = false) (q : R (numD x)) : R .none := by
  unfold numD at q
  rw [h, if_neg Bool.false_ne_true] at q
  exact q
theorem signs_all (x : Str) (f : PyData → Bool) (g : Nat → Bool) (h : ∀ c, f (.str ⟨#[c]⟩) = g c) : (signsD x).all f = (cps x).all g := by
  unfold signsD
  rw [List.all_map]
  exact congrArg (List.all _) (funext h)
theorem signs_len (x : Str) : (signsD x).length = x.length := by unfold signsD; rw [List.length_map]; exact cps_len x
end DL

/-! Dicts whose keys are tuples of numbers. -/
namespace DL
open PySem PySem.Spec PyProof.Rows L2 GX
theorem dps_ints {K : PySem.W.Frag} {H : Hp} : ∀ {ns : List Int} {xs : List V}, DpAll K H xs (ns.map PyData.int) → xs = ns.map V.int
  | [], _, h => by cases h; rfl
  | n :: r, _, h => by
    cases h with
    | cons a b =>
      cases a
      rw [dps_ints b]
      rfl
/-- an entry: the key's first number and the others, where the key stands, where the value stands -/
abbrev Ent := (Int × List Int) × Addr × Addr
def kOf (e : Ent) : List Int := e.1.1 :: e.1.2
def ek (e : Ent) : List Key × Addr × Value := ((kOf e).map Sum.inl, e.2.1, Value.ref e.2.2)
def RawD (P : Program) (w : World) (ents : List Ent) (a : Addr) (H : Hp) : Prop :=
  ∃ (o : Obj) (es : Array DictEntry) (ep : Nat), H a = some (.ext fun h => h.get? a = some o) ∧ (a == sysModules) = false ∧ o.ExactDict ∧ o.data = .dict es ep ∧ es.toList = (ents.map ek).map (entryOfKey (tupleKind (mixKind P w))) ∧ ((ents.map ek).map (·.1)).Nodup
theorem reads_ints {h : Heap} : ∀ {ns : List Int} {us : List Value}, Vals (ns.map V.int) us → ReadsAll h us (ns.map PyData.int) []
  | [], _, r => by
    rw [List.map_nil] at r
    cases r
    exact .nil
  | n :: ns, _, r => by
    rw [List.map_cons] at r
    cases r with
    | cons a t =>
      obtain ⟨t', rfl⟩ := a
      exact ReadsAll.cons (Reads.int n t') (reads_ints t)
section
variable {X : Cx} {pins : List (Addr × Obj)} {σ : L2.St} {H : Hp} {s : Shared} {a b : Addr} {ns : List Int} {ents : List Ent}
theorem key_seen (I : Inv X pins σ H s) (h : Dp X.K H (.ref b) (NA.dInts ns)) : (tupleKind (mixKind X.prog X.w)).is s.heap (ns.map Sum.inl) b ∧ Reads s.heap (.ref b) (NA.dInts ns) [] := by
  cases h with
  | tup hq r =>
    have e := dps_ints r
    subst e
    obtain ⟨its, rv, ⟨o, h1, h2, n, h3⟩, hz⟩ := I.tuple hq
    refine ⟨⟨o, its.toArray, n, h1, h2, h3, ?_⟩, Reads.tuple h1 h2 h3 (by simpa using reads_ints rv)⟩
    have : Vals ((ns.map Sum.inl : List Key).map kV) its := by rw [List.map_map]; exact rv
    simpa using items_are (P := X.prog) (w := X.w) this
theorem RawD.dict (I : Inv X pins σ H s) (h : RawD X.prog X.w ents a H) (hk : ∀ e ∈ ents, Dp X.K H (.ref e.2.1) (NA.dInts (kOf e))) : s.heap.DictOfH (tupleKind (mixKind X.prog X.w)) a (ents.map ek) := by
  obtain ⟨o, es, ep, ha, lo, hx, hd, he, hn⟩ := h
  have ho : s.heap.get? a = some o := (show ObjOk X.prog X.w H s.heap a (.ext _) from I.hok a _ ha).1
  refine ⟨o, es, ep, ho, hx, hd, he, fun x hx => ?_, hn⟩
  obtain ⟨e, he, rfl⟩ := List.mem_map.mp hx
  exact (key_seen I (hk e he)).1
end
theorem each_map {α : Type} {R : Value → α → Prop} {f : α → Value} : ∀ {bs : List α}, (∀ b ∈ bs, R (f b) b) → PySem.W.EachIs R (bs.map f) bs
  | [], _ => .nil
  | b :: r, h => .cons (h b (List.mem_cons_self ..)) (each_map fun c hc => h c (List.mem_cons_of_mem _ hc))
theorem each_back {α : Type} {f : α → Value} : ∀ {vs : List Value} {bs : List α}, PySem.W.EachIs (fun v b => v = f b) vs bs → vs = bs.map f
  | _, _, .nil => rfl
  | _, _, .cons h t => by rw [List.map_cons, ← each_back t, h]
def rSortD (P : Program) (w : World) (K : PySem.W.Frag) : List V → Hp → VK → Prop := fun xs H Q => ∃ (a : Addr) (ents : List Ent), xs = [.ref a] ∧ RawD P w ents a H ∧ (∀ e ∈ ents, Dp K H (.ref e.2.1) (NA.dInts (kOf e))) ∧ ents.length ≤ 1000 ∧
  ∀ (p : Addr) (ys : List Ent), H p = none → ys.length = ents.length → (∀ y ∈ ys, y ∈ ents) → Q (.ref p) (upd H p (.lst (ys.map fun y => V.ref y.2.1)))
theorem cr_sortD {X : Cx} (hc : X.calm = true) (hu : X.A.units + 10 < cLine) : CallR X (.builtin "sorted") (rSortD X.prog X.w X.K) := by
  intro pins s σ H xs us Q I r h
  obtain ⟨a, ents, rfl, ⟨o, es, ep, ha, lo, hx, hd, he, hn⟩, hkey, hl, q⟩ := h
  obtain ⟨u, rfl, rx⟩ := r.one
  cases rx
  have ho : s.heap.get? a = some o := (show ObjOk X.prog X.w H s.heap a (.ext _) from I.hok a _ ha).1
  have l1 : es.size = ents.length := by rw [← Array.length_toList, he, List.length_map, List.length_map]
  have few : ents.length ≤ sizeLine := Nat.le_trans hl (by decide)
  refine Calls.call_function_entry PyProof.Rows.kind_sorted PyProof.Rows.plain_sorted PyProof.Rows.entry_sorted (PyProof.Rows.args_sorted1 _) ?_
  unfold Builtin.«sorted»
  refine wpAny_bind (m := checkCount "sorted" 1 1 _) (wpAny_pure ?_)
  refine wpAny_bind (PySem.W.kdu_collect (A := X.A.in1) (kdl_raw lo hx hd) (I.ok.hd hc) ho (by omega) fun h' tk acc hk it => ?_)
  have ea : acc.toList = ents.map fun e => Value.ref e.2.1 := by
    have hlen : acc.toList.length = ents.length := by rw [Array.length_toList, it.1]; exact l1
    apply List.ext_getElem?
    intro j
    rw [List.getElem?_map]
    cases hj : acc.toList[j]? with
    | none =>
      have h1 := List.getElem?_eq_none_iff.mp hj
      rw [List.getElem?_eq_none (by omega)]
      rfl
    | some v =>
      obtain ⟨en, hen, hv⟩ := it.2 j v (by rw [← Array.getElem?_toList]; exact hj)
      rw [← Array.getElem?_toList, he, List.getElem?_map, List.getElem?_map] at hen
      cases hb : ents[j]? with
      | none => rw [hb] at hen; cases hen
      | some b =>
        rw [hb] at hen
        rw [hv, ← Option.some.inj hen]
        rfl
  have I1 : Inv X pins σ H { s with heap := h', toks := tk } := I.kept hk
  refine wpAny_bind (wpAny_newList ?_ (by rw [ea, List.length_map]; exact few))
  rw [ea]
  have hoL : (h'.push (seqObj "list" (ents.map fun e => Value.ref e.2.1).toArray 0)).get? h'.objs.size = some (seqObj "list" (ents.map fun e => Value.ref e.2.1).toArray 0) := Heap.get?_push_size _ rfl
  show wpAny _ _ _ _ _ { s with heap := h'.push (seqObj "list" (ents.map fun e => Value.ref e.2.1).toArray 0), toks := tk }
  refine wpAny_bind (wpAny_holding (PySem.W.list_sort_data (s := { s with heap := h'.push (seqObj "list" (ents.map fun e => Value.ref e.2.1).toArray 0), toks := tk }) (bs := ents) (enc := fun e => NA.dInts (kOf e)) (R := fun v e => v = Value.ref e.2.1) hoL
    (each_map fun e he => rfl) (each_map fun e he => ⟨[], PyProof.Rows.Reads.keeps (fun b o z => Heap.get?_push_of_some _ z) (key_seen I1 (hkey e he)).2, by simp⟩) (PySem.W.AllAlike.of fun b b' => PySem.W.alike_ints _ _) (PySem.W.Sortable.tuples fun b => ⟨_, _, rfl⟩) few (fun b hb => ?_) fun out lo eo => ?_))
  · have : (NA.dInts (kOf b)).depth ≤ 1 := by
      show PyData.depthAll ((kOf b).map PyData.int) + 1 ≤ 1
      rw [PySem.W.depth_ints]
      exact Nat.le_refl 1
    show X.A.units + 1 + 1 + _ < _
    omega
  · have eo' := each_back (f := fun e : Ent => Value.ref e.2.1) eo
    have pm := List.mergeSort_perm ents (PySem.W.dataLe false fun e => NA.dInts (kOf e))
    generalize ents.mergeSort (PySem.W.dataLe false fun e => NA.dInts (kOf e)) = ys at eo' pm
    subst eo'
    obtain ⟨e', he'⟩ := PyProof.Rows.sortedHeap_at (vs := ents.map fun e => Value.ref e.2.1) (out := (ys.map fun e => Value.ref e.2.1).toArray) hoL
    refine wpAny_pure ⟨_, rfl, .ref h'.objs.size, upd H h'.objs.size (.lst (ys.map fun y => V.ref y.2.1)), I1.laid (t' := tk) (fun b u e => ?_) (Nat.le_refl _)
      (show ObjOk X.prog X.w _ _ _ (.lst (ys.map fun y => V.ref y.2.1)) from ⟨by rw [List.length_map, pm.length_eq]; exact few, ys.map fun e => Value.ref e.2.1, e', by have := vals_refs (ys.map fun e => e.2.1); rw [List.map_map, List.map_map] at this; exact this, he'⟩), rfl, q _ ys (I1.hok.fresh (Nat.le_refl _)) pm.length_eq fun y hy => pm.mem_iff.mp hy⟩
    have hb : b < h'.objs.size := Heap.lt_size e
    rw [PyProof.Rows.sortedHeap_old (Nat.ne_of_lt hb) (by rw [size_push']; exact Nat.lt_succ_of_lt hb)]
    exact Heap.get?_push_of_some _ e
def rIxD (P : Program) (w : World) (K : PySem.W.Frag) : R2 := fun x y H Q => ∃ (a : Addr) (ents : List Ent) (b : Addr) (k : List Int), x = .ref a ∧ RawD P w ents a H ∧ (∀ e ∈ ents, Dp K H (.ref e.2.1) (NA.dInts (kOf e))) ∧ y = .ref b ∧ Dp K H (.ref b) (NA.dInts k) ∧ k ∈ ents.map kOf ∧ ∀ e ∈ ents, Q (.ref e.2.2) H
theorem ix_dict {X : Cx} (hu : X.A.units + 10 < cLine) : IxR X (rIxD X.prog X.w X.K) := by
  intro value slice pins s σ H x y v u Q I rx ry h hs
  obtain ⟨a, ents, b, k, rfl, hr, hkey, rfl, hb, hk, q⟩ := h
  cases rx
  cases ry
  have hm := hr.dict I hkey
  have hT : s.TypeIs (.ref a) "dict" := hm.typeIs
  obtain ⟨e, he, rfl⟩ := List.mem_map.mp hk
  have hp : ∃ e' ∈ ents, atKey (ents.map ek) ((kOf e).map Sum.inl) = some (ek e').2 := by
    unfold atKey
    cases z : (ents.map ek).find? fun x => decide (x.1 = (kOf e).map Sum.inl) with
    | none =>
      have := List.find?_eq_none.mp z (ek e) (List.mem_map_of_mem he)
      exact absurd (decide_eq_true (show (ek e).1 = (kOf e).map Sum.inl from rfl)) this
    | some x =>
      obtain ⟨e', he', rfl⟩ := List.mem_map.mp (List.mem_of_find?_eq_some z)
      exact ⟨e', he', rfl⟩
  obtain ⟨e', he', hp⟩ := hp
  unfold subscriptTail
  refine wpAny_bind ?_
  rw [getitemInPython_of_ne hT.not_modules]
  refine wpAny_bind (wpAny_specialOf hT PySem.slot_dict_getitem.lookup ?_)
  have fin : wpAny (model X.prog X.w) X.A (subscripted slice false (.ref a) (.ref b)) (fun r s₃ => wpAny (model X.prog X.w) X.A (letTemporaryGo value (.ref a) r >>= fun _ => pure r) (EP X pins σ Q) X.xe s₃) X.xe s := by
    rw [hs]
    refine wpAny_operating (wpAny_getItem_heap (show X.A.units + 1 < cLine by omega) (key_seen I hb).1 hm hp (wpAny_bind (wpAny_letTemporaryGo (wpAny_pure ?_))))
    exact ⟨.ref e'.2.2, H, I.kept fun _ _ z => z, rfl, q e' he'⟩
  first
    | exact wpAny_pure (wpAny_bind fin)
    | exact wpAny_bind (wpAny_pure (wpAny_bind fin))
    | exact wpAny_bind fin
/-- what stands in a dict of pairs -/
def Of (rs : List (Addr × Ent)) (x : List Key × Addr × Value) : Prop := ∃ e, ek e = x ∧ (∃ r ∈ rs, e.1 = r.2.1 ∧ e.2.1 = r.2.2.1) ∧ ∃ r ∈ rs, e.2.2 = r.2.2.2
theorem of_stored {rs : List (Addr × Ent)} : ∀ (ps : List (Addr × Ent)) (acc : List (List Key × Addr × Value)), (∀ r ∈ ps, r ∈ rs) → (∀ x ∈ acc, Of rs x) → (∀ x ∈ storedAllH acc (ps.map fun r => ek r.2), Of rs x) ∧ (storedAllH acc (ps.map fun r => ek r.2)).length ≤ acc.length + ps.length
  | [], acc, _, h => ⟨h, Nat.le_refl _⟩
  | r :: ps, acc, hp, h => by
    have key : ∀ x ∈ storedH acc (ek r.2).1 (ek r.2).2.1 (ek r.2).2.2, Of rs x := fun x hx => by
      have hr := hp r (List.mem_cons_self ..)
      unfold storedH at hx
      split at hx
      · obtain ⟨y, hy, rfl⟩ := List.mem_map.mp hx
        unfold putAt
        split
        · obtain ⟨e, rfl, he, _⟩ := h y hy
          exact ⟨(e.1, e.2.1, r.2.2.2), rfl, he, r, hr, rfl⟩
        · exact h y hy
      · rcases List.mem_append.mp hx with hx | hx
        · exact h x hx
        · rw [List.mem_singleton.mp hx]
          exact ⟨r.2, rfl, ⟨r, hr, rfl, rfl⟩, r, hr, rfl⟩
    obtain ⟨h1, h2⟩ := of_stored ps _ (fun q hq => hp q (List.mem_cons_of_mem _ hq)) key
    refine ⟨h1, Nat.le_trans h2 ?_⟩
    have := storedH_length acc (ek r.2).1 (ek r.2).2.1 (ek r.2).2.2
    rw [List.length_cons]
    omega
theorem ents_of {G : Ent → Prop} : ∀ {xs : List (List Key × Addr × Value)}, (∀ x ∈ xs, ∃ e, ek e = x ∧ G e) → ∃ ents : List Ent, ents.map ek = xs ∧ ∀ e ∈ ents, G e
  | [], _ => ⟨[], rfl, fun _ m => (nomatch m)⟩
  | x :: r, h => by
    obtain ⟨e, rfl, g⟩ := h x (List.mem_cons_self ..)
    obtain ⟨es, rfl, gs⟩ := ents_of fun y hy => h y (List.mem_cons_of_mem _ hy)
    exact ⟨e :: es, rfl, fun z hz => (List.mem_cons.mp hz).elim (fun q => q ▸ g) (gs z)⟩
def rDictD (P : Program) (w : World) (K : PySem.W.Frag) : List V → Hp → VK → Prop := fun xs H Q => ∃ (a : Addr) (rs : List (Addr × Ent)), xs = [.ref a] ∧ SqL K H a (rs.map fun r => V.ref r.1) ∧ rs.length ≤ 1000 ∧
  (∀ r ∈ rs, SqT K H r.1 [.ref r.2.2.1, .ref r.2.2.2] ∧ Dp K H (.ref r.2.2.1) (NA.dInts (kOf r.2))) ∧
  ∀ (p : Addr) (o : HO) (ents : List Ent), H p = none → (∀ ps, o ≠ .tbl ps) → ents.length ≤ rs.length → RawD P w ents p (upd H p o) → (∀ e ∈ ents, (∃ r ∈ rs, e.1 = r.2.1 ∧ e.2.1 = r.2.2.1) ∧ ∃ r ∈ rs, e.2.2 = r.2.2.2) → Q (.ref p) (upd H p o)
theorem vals_two {x y : Addr} {us : List Value} (h : Vals [V.ref x, V.ref y] us) : us = [.ref x, .ref y] := by
  obtain ⟨u, v, rfl, a, b⟩ := h.two
  cases a
  cases b
  rfl
theorem cr_dictD {X : Cx} (hc : X.calm = true) (hu : X.A.units + 10 < cLine) : CallR X (.type "dict") (rDictD X.prog X.w X.K) := by
  intro pins s σ H xs us Q I r h
  obtain ⟨a, rs, rfl, hq, hl, hp, q⟩ := h
  obtain ⟨u, rfl, rx⟩ := r.one
  cases rx
  obtain ⟨its, rv, ⟨ol, n, ho, hcl, hd, hdat⟩, hz⟩ := I.list hq
  have ei : its = (rs.map (·.1)).map Value.ref := refs_at (by rw [List.map_map]; exact rv)
  subst ei
  have few : rs.length ≤ sizeLine := Nat.le_trans hl (by decide)
  refine call_dict_pairsH (knd := tupleKind (mixKind X.prog X.w)) (ps := rs.map fun r => ek r.2) (PairArg.list a ((rs.map (·.1)).map Value.ref).toArray (fun j => (rs.map (·.1)).getD j 0) (rs.map fun r => (Value.ref r.2.2.1, Value.ref r.2.2.2))) (I.ok.hd hc) (show X.A.units + 1 + 1 < cLine by omega)
    ⟨⟨ol, n, ho, hcl, hd, hdat⟩, by simp, fun j k v e => ?_⟩ ⟨by simp, fun i k v e => ?_⟩ (fun h' hk x hx => ?_) (by rw [List.length_map]; exact few) fun h' tk hD hk => ?_
  · rw [List.getElem?_map] at e
    cases z : rs[j]? with
    | none => rw [z] at e; cases e
    | some r =>
      rw [z] at e
      cases e
      obtain ⟨its, rv, ht, _⟩ := I.tuple (hp r (List.mem_of_getElem? z)).1
      have := vals_two rv
      subst this
      have zz : (rs.map (·.1))[j]? = some r.1 := by rw [List.getElem?_map, z]; rfl
      have gd : (rs.map (·.1)).getD j 0 = r.1 := by rw [List.getD_eq_getElem?_getD, zz]; rfl
      refine ⟨?_, .inl ?_⟩
      · rw [List.getElem?_toArray, List.getElem?_map, zz]
        show some (Value.ref r.1) = some (Value.ref ((rs.map (·.1)).getD j 0))
        rw [gd]
      · show s.heap.IsTuple ((rs.map (·.1)).getD j 0) _
        rw [gd]
        exact ht
  · have e : (rs.map fun r => (Value.ref r.2.2.1, Value.ref r.2.2.2))[i]? = some (k, v) := e
    rw [List.getElem?_map] at e
    cases z : rs[i]? with
    | none => rw [z] at e; cases e
    | some r =>
      rw [z] at e
      cases e
      exact ⟨_, _, by rw [List.getElem?_map, z]; rfl, rfl⟩
  · obtain ⟨r, hr, rfl⟩ := List.mem_map.mp hx
    have k1 := (key_seen I (hp r hr).2).1
    exact tupleKind_stays.stays (fun b o vs m e _ => hk b o (Nat.ne_of_lt (Heap.lt_size e)) (by simp) e) k1
  · obtain ⟨o', es, ep, ho', hx', hd', he', hi', hn'⟩ := hD
    obtain ⟨g1, g2⟩ := of_stored (rs := rs) rs [] (fun _ m => m) (fun _ m => (nomatch m))
    obtain ⟨ents, ee, ge⟩ := ents_of g1
    rw [← ee] at he' hn' g2
    rw [List.length_map, List.length_nil, Nat.zero_add] at g2
    have hm : (s.heap.objs.size == sysModules) = false := beq_eq_false_iff_ne.mpr (Nat.ne_of_gt I.big)
    refine ⟨.ref s.heap.objs.size, upd H s.heap.objs.size (.ext fun h => h.get? s.heap.objs.size = some o'), I.laid (t' := tk) (fun b u e => hk b u (by simp) e) (Nat.le_refl _) ⟨ho', ⟨_, ho'⟩, fun h1 h2 x k => k _ x⟩, rfl, q _ _ ents (I.hok.fresh (Nat.le_refl _)) (fun _ z => by cases z) g2 ⟨o', es, ep, upd_same, hm, hx', hd', he', hn'⟩ fun e he => ge e he⟩
end DL

/-! Readings over data: dicts with keys of numbers, calls of a def that a slot holds. -/
namespace DL
open PySem PySem.Spec PyProof.Rows L2 GX
/-- a call of the def that slot i holds -/
def callL (i : Nat) (f : Addr) (spec : SpecD) (g : DAs) : DE := fun ρ R => ρ[i]? = some (some (.fn f)) ∧ g ρ fun ss => spec ss R
section
variable {X : Cx} {C : Cc} {e : Expr} {es : List Expr} {f : DE} {g : DAs} {pos p : Pos}
theorem d_callL {k i : Nat} {fa : Addr} {fd : FuncData} {ps : List Str} {x : Str} {spec : SpecD} (G : FnOk X.prog X.w X.K X.mg X.base CX0 k fa fd ps (spD C.b κ2 spec)) (hr : Room k X.A) (hN : X.N[i]? = some x) (hv : Vis X.env.scope x) (hk : PySem.W.keepIn X.K (.ref fa) = true) (hb : Binds X.K fd ps [])
    (ha : PSA X C κ1 (e :: es) g) (hdb : (x == ("__debug__" : Str)) = false := by decide) (hcd : (x == ("__classdict__" : Str)) = false := by decide) (he : starEach (e :: es) X.env = (false, eval e X.env) :: starEach es X.env := by rfl) (hpl : (backTo pos (starEach es X.env)).any (·.1) = false := by rfl) :
    PD X C (κ1 + κ2) (.Call (.Name x p) (e :: es) [] pos) (callL i fa spec g) := pe_mono (pe_callL G hr hN hv hk hb .nil pass0 ha hdb hcd he hpl) fun σ H Q h => by
  obtain ⟨F, ρ, R, rel, ⟨hs, hf⟩, q⟩ := h
  obtain ⟨v, hv, ok⟩ := rel.slot i _ hs
  have ok : v = .ref fa := ok
  subst ok
  exact ⟨hv, call_ok ⟨F, ρ, R, rel, hf, q⟩⟩
end
theorem RawD.sub {P : Program} {w : World} {ents : List Ent} {a : Addr} {H H' : Hp} (s : Sub H H') (h : RawD P w ents a H) : RawD P w ents a H' := by
  obtain ⟨o, es, ep, ha, r⟩ := h
  exact ⟨o, es, ep, s a _ ha (fun _ z => by cases z), r⟩
/-- a dict with these keys, whose values are so -/
def DctAt (P : Program) (w : World) (K : PySem.W.Frag) (ks : List (List Int)) (Pv : PyData → Prop) (v : V) (H : Hp) : Prop :=
  ∃ (a : Addr) (ents : List Ent), v = .ref a ∧ RawD P w ents a H ∧ ks = ents.map kOf ∧ ∀ e ∈ ents, Dp K H (.ref e.2.1) (NA.dInts (kOf e)) ∧ ∃ z, Dp K H (.ref e.2.2) z ∧ Pv z
theorem dct_st {P : Program} {w : World} {K : PySem.W.Frag} {ks : List (List Int)} {Pv : PyData → Prop} : ∀ v H H', Sub H H' → DctAt P w K ks Pv v H → DctAt P w K ks Pv v H' := fun v H H' s ⟨a, ents, h1, h2, h3, h4⟩ =>
  ⟨a, ents, h1, h2.sub s, h3, fun e he => ⟨s.dp (h4 e he).1, (h4 e he).2.imp fun z q => ⟨s.dp q.1, q.2⟩⟩⟩
def dctV (P : Program) (w : World) (K : PySem.W.Frag) (ks : List (List Int)) (Pv : PyData → Prop) : SV := .ob (DctAt P w K ks Pv) dct_st
theorem Rel.setS {C : Cc} {F : List Addr} {σ : L2.St} {H : Hp} {ρ : DEnv} {v : V} {s : SV} {κ : Nat} (r : Rel C κ F σ H ρ) (i : Nat) (no : s.owned = false) (h : SvOk C F H v s) : Rel C κ F (σ.set i (some v)) H (ρ.set i (some s)) := by
  refine ⟨r.hk, r.ent, r.low, r.new, fun j s' x => ?_, by rw [List.length_set, List.length_set]; exact r.len, r.held, fun j k s1 t1 w o1 o2 h1 h2 h3 h4 => ?_, r.bud⟩
  · by_cases hj : i = j
    · subst hj
      have l : i < ρ.length := by
        have := (List.getElem?_eq_some_iff.mp x).1
        rwa [List.length_set] at this
      rw [List.getElem?_set_self l] at x
      cases x
      exact ⟨v, List.getElem?_set_self (by rw [← r.len]; exact l), h⟩
    · rw [List.getElem?_set_ne hj] at x ⊢
      exact r.slot j s' x
  · have n : ∀ m (z : SV), z.owned = true → (ρ.set i (some s))[m]? = some (some z) → i ≠ m := fun m z oz e z' => by
      subst z'

      have l : i < ρ.length := by
        have := (List.getElem?_eq_some_iff.mp e).1
        rwa [List.length_set] at this
      rw [List.getElem?_set_self l] at e
      cases e
      rw [no] at oz
      cases oz
    have nj := n j s1 o1 h1
    have nk := n k t1 o2 h2
    rw [List.getElem?_set_ne nj] at h1 h3
    rw [List.getElem?_set_ne nk] at h2 h4
    exact r.apart j k s1 t1 w o1 o2 h1 h2 h3 h4
/-- the pairs of a list of data -/
def PairsD (Pv : PyData → Prop) (ds : List PyData) : Prop := ∀ d ∈ ds, ∃ h t z, d = .tuple [NA.dInts (h :: t), .tuple z] ∧ Pv (.tuple z)
theorem pairs_at {K : PySem.W.Frag} {H : Hp} {Pv : PyData → Prop} : ∀ {ds : List PyData} {vs : List V}, DpAll K H vs ds → PairsD Pv ds → ∃ rs : List (Addr × Ent), vs = rs.map (fun r => V.ref r.1) ∧ rs.length = ds.length ∧
    ∀ r ∈ rs, SqT K H r.1 [.ref r.2.2.1, .ref r.2.2.2] ∧ Dp K H (.ref r.2.2.1) (NA.dInts (kOf r.2)) ∧ ∃ z, Dp K H (.ref r.2.2.2) z ∧ Pv z
  | [], _, h, _ => by
    cases h
    exact ⟨[], rfl, rfl, fun _ m => (nomatch m)⟩
  | d :: ds, _, h, hp => by
    cases h with
    | cons a b =>
      obtain ⟨rs, rfl, l, g⟩ := pairs_at b fun x hx => hp x (List.mem_cons_of_mem _ hx)
      obtain ⟨h, t, z, rfl, pz⟩ := hp d (List.mem_cons_self ..)
      cases a with
      | tup hq r =>
        cases r with
        | cons r1 r2 =>
          cases r2 with
          | cons r2 r3 =>
            cases r3
            cases r1 with
            | tup q1 s1 =>
              cases r2 with
              | tup q2 s2 =>
                rename_i p0 b0 x0 c0 y0
                refine ⟨(p0, ((h, t), b0, c0)) :: rs, rfl, congrArg (· + 1) l, fun r hr => ?_⟩
                rcases List.mem_cons.mp hr with rfl | hr
                · exact ⟨hq, .tup q1 s1, _, .tup q2 s2, pz⟩
                · exact g r hr
def dictS (P : Program) (w : World) (K : PySem.W.Frag) (i : Nat) (f : DEnv → (List PyData → Prop) → Prop) : DS := fun N ρ => f ρ fun ds => ∃ Pv, ds.length ≤ 1000 ∧ PairsD Pv ds ∧ ∀ ks : List (List Int), ks.length ≤ ds.length → N.nx (ρ.set i (some (dctV P w K ks Pv)))
def sortDc (P : Program) (w : World) (K : PySem.W.Frag) (i : Nat) : DEnv → (List PyData → Prop) → Prop := fun ρ R => ∃ ks Pv, ρ[i]? = some (some (dctV P w K ks Pv)) ∧ ks.length ≤ 1000 ∧ ∀ ds : List PyData, ds.length = ks.length → (∀ d ∈ ds, ∃ k ∈ ks, d = NA.dInts k) → R ds
def ixDc (P : Program) (w : World) (K : PySem.W.Frag) (i : Nat) (f : DE) : DE := fun ρ R => ∃ ks Pv, ρ[i]? = some (some (dctV P w K ks Pv)) ∧ f ρ fun d => ∃ k ∈ ks, d = NA.dInts k ∧ ∀ z, Pv z → R z
section
variable {X : Cx} {C : Cc} {e : Expr} {pos p : Pos}
theorem s_dict {i j : Nat} {tg : Expr} {pos' : Pos} {f : DEnv → (List PyData → Prop) → Prop} (hc : X.calm = true) (hr : Room j X.A) (hgl : Gl X "dict") (hm : X.mg "dict" = none) (ha : PN X C κ e f) (hg : PG X tg (gName i)) (he : starEach [e] X.env = (false, eval e X.env) :: starEach [] X.env := by rfl) (hK : C.b.K = X.K := by rfl)
    (hs : swapsWithSole [tg] (.Call (.Name "dict" p) [e] [] pos) pos'.line X.env = pure false := by rfl) (hw : swappedStores [tg] (.Call (.Name "dict" p) [e] [] pos) X.env = pure none := by rfl) (h1 : (assignEach [tg] X.env).map (·.2) = [assign tg X.env] := by rfl) :
    PDS X C κ (.Assign [tg] (.Call (.Name "dict" p) [e] [] pos) pos') (dictS X.prog X.w X.K i f) :=
  ps_mono (ps_asg (pe_callTy (cr_dictD hc (by have := hr.un; omega)) hgl hm (by decide +kernel) (pa_cons ha pa_nil he) (by decide) (by decide) he) hg hs hw h1) fun D σ H ⟨kk, F, ρ, N, rel, ht, g⟩ => ⟨F, ρ, _, rel.lel, ht, fun ds ⟨Pv, hl, hp, k⟩ a vs H1 e1 na ha dp => by
    have hk1 := e1.hk
    have dpF : DpAll C.b.K (hide H1 F) vs ds := (sub_less fun b m => List.mem_cons_of_mem _ m).dps dp
    obtain ⟨rs, rfl, lr, gr⟩ := pairs_at dpF hp
    have su : Sub (hide H1 F) H1 := sub_hide
    refine ⟨a, rs, rfl, .inl (.inl ha), by omega, fun r hr => ⟨hK ▸ su.sqt (gr r hr).1, hK ▸ su.dp (gr r hr).2.1⟩, fun q o ents hq no le raw ge => ?_⟩
    have ev : Ev C.b 0 F H1 (upd H1 q o) := Ev.new hk1 hq no
    refine g.nx _ (k (ents.map kOf) (by rw [List.length_map]; omega)) F _ _ (((rel.ev e1).ev0 ev).setS i rfl ?_)
    have s2 := ev.sub hk1
    have qF := new_out hk1 hq
    refine ⟨q, ents, rfl, ?_, rfl, fun en hen => ?_⟩
    · obtain ⟨o', es, ep, h1, r⟩ := raw
      exact ⟨o', es, ep, by rw [hide_out qF]; exact h1, r⟩
    · obtain ⟨⟨r, hr, x1, x2⟩, r', hr', x3⟩ := ge en hen
      obtain ⟨z, dz, pz⟩ := (gr r' hr').2.2
      refine ⟨?_, z, ?_, pz⟩
      · rw [x2, show kOf en = kOf r.2 from by unfold kOf; rw [x1]]
        exact hK ▸ s2.dp (gr r hr).2.1
      · rw [x3]
        exact hK ▸ s2.dp dz⟩
theorem n_sortDc {i j : Nat} {x : Expr} (hc : X.calm = true) (hr : Room j X.A) (hgl : Gl X "sorted") (hm : X.mg "sorted" = none) (ha : PE X x (tVar i)) (he : starEach [x] X.env = (false, eval x X.env) :: starEach [] X.env := by rfl) (hK : C.b.K = X.K := by rfl) :
    PN X C 0 (.Call (.Name "sorted" p) [x] [] pos) (sortDc X.prog X.w X.K i) :=
  pe_mono (pe_callB (cr_sortD hc (by have := hr.un; omega)) hgl hm (by decide +kernel) (pa_cons ha pa_nil he) (by decide) (by decide) he) fun σ H Q ⟨F, ρ, R, rel, ⟨ks, Pv, hs, hl, k⟩, q⟩ => by
    obtain ⟨v, hv, ok⟩ := rel.slot i _ hs
    obtain ⟨a, ents, rfl, raw, rfl, ge⟩ := (show DctAt X.prog X.w X.K ks Pv v (hide H F) from ok)
    rw [List.length_map] at hl
    refine ⟨.ref a, hv, a, ents, rfl, raw.sub sub_hide, fun e he => sub_hide.dp (ge e he).1, hl, fun q' ys hq ly hy => ?_⟩
    refine q (ys.map fun y => NA.dInts (kOf y)) (k _ (by rw [List.length_map, List.length_map]; exact ly) fun d hd => ?_) q' _ _ (ev_lst rel.hk hq) hq upd_same ((sub_hold hq).dps ?_)
    · obtain ⟨y, m, rfl⟩ := List.mem_map.mp hd
      exact ⟨_, List.mem_map_of_mem (hy y m), rfl⟩
    · rw [hK]
      clear ly
      induction ys with
      | nil => exact .nil
      | cons y r ih => exact .cons (ge y (hy y (List.mem_cons_self ..))).1 (ih fun z hz => hy z (List.mem_cons_of_mem _ hz))
theorem d_ixDc {i j : Nat} {a b : Expr} {f : DE} (hr : Room j X.A) (ha : PE X a (tVar i)) (hb : PD X C κ b f) (hs : PlainIx b) (hK : C.b.K = X.K := by rfl) : PD X C κ (.Subscript a b pos) (ixDc X.prog X.w X.K i f) :=
  pe_mono (pe_ix (ix_dict (by have := hr.un; omega)) ha hb hs) fun σ H Q ⟨F, ρ, R, rel, ⟨ks, Pv, hs, hf⟩, q⟩ => by
    obtain ⟨v, hv, ok⟩ := rel.slot i _ hs
    refine ⟨v, hv, F, ρ, _, rel, hf, fun d ⟨k, hk, ed, hz⟩ y H1 e1 dy => ?_⟩
    subst ed
    obtain ⟨c, ents, rfl, raw, rfl, ge⟩ := (show DctAt X.prog X.w X.K ks Pv v (hide H1 F) from SvOk.ev rel.hk e1 ok)
    cases dy with
    | tup q1 s1 =>
      refine ⟨c, ents, _, k, rfl, raw.sub sub_hide, fun e he => sub_hide.dp (ge e he).1, rfl, hK ▸ sub_hide.dp (.tup q1 s1), hk, fun e he => ?_⟩
      obtain ⟨z, dz, pz⟩ := (ge e he).2
      exact q z (hz z pz) _ H1 e1 (hK ▸ dz)
end
end DL

/-! sorted of a list of data. -/
namespace DL
open PySem PySem.Spec PyProof.Rows L2 GX
def srt (ds : List PyData) : List PyData := ds.mergeSort (PySem.W.dataLe false id)
def rSortL (K : PySem.W.Frag) : List V → Hp → VK → Prop := fun xs H Q => ∃ (a : Addr) (vs : List V) (ds : List PyData), xs = [.ref a] ∧ SqL K H a vs ∧ DpAll K H vs ds ∧ PySem.W.AllAlike ds ∧ PySem.W.Sortable ds ∧ (∀ d ∈ ds, d.depth ≤ 60) ∧
  ∀ (p : Addr) (bs : List (V × PyData)), H p = none → bs.Perm (vs.zip ds) → bs.map (·.2) = srt ds → Q (.ref p) (upd H p (.lst (bs.map (·.1))))
theorem zip_1 {K : PySem.W.Frag} {H : Hp} : ∀ {vs : List V} {ds : List PyData}, DpAll K H vs ds → (vs.zip ds).map (·.1) = vs ∧ (vs.zip ds).map (·.2) = ds
  | _, _, .nil => ⟨rfl, rfl⟩
  | _, _, .cons _ r => ⟨congrArg (_ :: ·) (zip_1 r).1, congrArg (_ :: ·) (zip_1 r).2⟩
theorem each_zip {X : Cx} {pins : List (Addr × Obj)} {σ : L2.St} {H : Hp} {s : Shared} (I : Inv X pins σ H s) : ∀ {vs : List V} {ds : List PyData} {us : List Value}, DpAll X.K H vs ds → Vals vs us → PySem.W.EachIs (fun u b => RelV b.1 u) us (vs.zip ds) ∧ PySem.W.EachIs (fun u b => ∃ as, Reads s.heap u (b : V × PyData).2 as) us (vs.zip ds)
  | _, _, _, .nil, r => by
    cases r
    exact ⟨.nil, .nil⟩
  | _, _, _, .cons d t, r => by
    cases r with
    | cons a b => exact ⟨.cons a (each_zip I t b).1, .cons (Dp.reads I _ _ _ d a) (each_zip I t b).2⟩
theorem vals_each : ∀ {us : List Value} {bs : List (V × PyData)}, PySem.W.EachIs (fun u b => RelV b.1 u) us bs → Vals (bs.map (·.1)) us
  | _, _, .nil => .nil
  | _, _, .cons a r => .cons a (vals_each r)
theorem cr_sortL {X : Cx} (hu : X.A.units + 100 < cLine) : CallR X (.builtin "sorted") (rSortL X.K) := by
  intro pins s σ H xs us Q I r h
  obtain ⟨a, vs, ds, rfl, hq, hd, ha, hs, hde, q⟩ := h
  obtain ⟨u, rfl, rx⟩ := r.one
  cases rx
  obtain ⟨its, rv, pl, hz⟩ := I.list hq
  obtain ⟨e1, e2⟩ := each_zip I hd rv
  obtain ⟨z1, z2⟩ := zip_1 hd
  have ln : (vs.zip ds).length ≤ sizeLine := by
    have := congrArg List.length z1
    rw [List.length_map] at this
    omega
  refine PySem.W.sorted_data (bs := vs.zip ds) (enc := fun b => b.2) (R := fun u b => RelV b.1 u) pl.isList e1 e2 (by rw [z2]; exact ha) (by rw [z2]; exact hs) ln (fun b hb => ?_) fun out lo eo => ?_
  · have := hde b.2 (z2 ▸ List.mem_map_of_mem hb)
    omega
  · have pm := List.mergeSort_perm (vs.zip ds) (PySem.W.dataLe false fun b => b.2)
    have mm : ((vs.zip ds).mergeSort (PySem.W.dataLe false fun b => b.2)).map (·.2) = srt ds := by
      refine Eq.trans (List.map_mergeSort (f := fun b : V × PyData => b.2) (r := PySem.W.dataLe false fun b : V × PyData => b.2) (s := PySem.W.dataLe false id) (fun _ _ _ _ => rfl)) ?_
      exact congrArg (fun l => List.mergeSort l (PySem.W.dataLe false id)) z2
    generalize (vs.zip ds).mergeSort (PySem.W.dataLe false fun b => b.2) = bs at eo pm mm
    have hl : (bs.map (·.1)).length ≤ sizeLine := by rw [List.length_map, pm.length_eq]; exact ln
    obtain ⟨e', he'⟩ := sortedAll_at s.heap its out.toArray
    refine ⟨.ref (s.heap.objs.size + 1), upd H (s.heap.objs.size + 1) (.lst (bs.map (·.1))), I.laid (t' := s.toks) (fun b u e => sortedAll_old e) (Nat.le_succ _) ⟨hl, out, e', vals_each eo, he'⟩, rfl, q _ bs (I.hok.fresh (Nat.le_succ _)) pm mm⟩
def sortN (f : DE) : DEnv → (List PyData → Prop) → Prop := fun ρ R => f ρ fun d => onL d fun ds => PySem.W.AllAlike ds ∧ PySem.W.Sortable ds ∧ (∀ d ∈ ds, d.depth ≤ 60) ∧ R (srt ds)
theorem dps_zip {K : PySem.W.Frag} {H : Hp} : ∀ {vs : List V} {ds : List PyData}, DpAll K H vs ds → ∀ b ∈ vs.zip ds, Dp K H b.1 b.2
  | _, _, .nil, b, m => by cases m
  | _, _, .cons d r, b, m => (List.mem_cons.mp m).elim (fun e => by rw [e]; exact d) (dps_zip r b)
theorem dps_back {K : PySem.W.Frag} {H : Hp} : ∀ {bs : List (V × PyData)}, (∀ b ∈ bs, Dp K H b.1 b.2) → DpAll K H (bs.map (·.1)) (bs.map (·.2))
  | [], _ => .nil
  | b :: r, h => .cons (h b (List.mem_cons_self ..)) (dps_back fun c hc => h c (List.mem_cons_of_mem _ hc))
theorem n_sorted {X : Cx} {C : Cc} {e : Expr} {f : DE} {pos p : Pos} {j : Nat} (hg : Gl X "sorted") (hm : X.mg "sorted" = none) (hr : Room j X.A) (ha : PP X C κ e f) (he : starEach [e] X.env = (false, eval e X.env) :: starEach [] X.env := by rfl) (hK : C.b.K = X.K := by rfl) :
    PN X C κ (.Call (.Name "sorted" p) [e] [] pos) (sortN f) :=
  pe_mono (pe_callB (cr_sortL (by have := hr.un; omega)) hg hm (by decide +kernel) (pa_cons ha pa_nil he) (by decide) (by decide) he) fun σ H Q ⟨F, ρ, R, rel, hf, q⟩ => ⟨F, ρ, _, rel, hf, fun d ho v H1 e1 p1 => by
    obtain ⟨ds, rfl, h1, h2, h3, hR⟩ := onL_ok ho
    obtain ⟨a, vs, rfl, sx, ax⟩ := p1.list
    refine ⟨a, vs, ds, rfl, hK ▸ sx, hK ▸ sub_hide.dps ax, h1, h2, h3, fun p bs hp pm mm => q _ hR p _ _ (e1.trans (ev_lst e1.hk hp)) (new_none e1 hp) upd_same ((sub_hold hp).dps ?_)⟩
    rw [← mm]
    exact dps_back fun b hb => dps_zip ax b (pm.mem_iff.mp hb)⟩
end DL

/-! More readings over data: sums and slices of lists as new lists, max of a list, extend, what is never come to. -/
namespace DL
open PySem PySem.Spec PyProof.Rows L2 GX
section
variable {X : Cx} {C : Cc} {e a b : Expr} {f fa fb : DE} {pos p : Pos}
/-- xs + ys, as a new list -/
def catN (fa fb : DE) : DEnv → (List PyData → Prop) → Prop := fun ρ R => fa ρ fun d => fb ρ fun e => onL d fun xs => onL e fun ys => xs.length + ys.length ≤ sizeLine ∧ R (xs ++ ys)
theorem n_cat (ha : PP X C κ1 a fa) (hb : PP X C κ2 b fb) (hK : C.b.K = X.K := by rfl) : PN X C (κ1 + κ2) (.BinOp a .Add b pos) (catN fa fb) :=
  pe_mono (pe_op op_catL ha hb) fun σ H Q ⟨F, ρ, R, rel, hf, q⟩ => ⟨F, ρ, _, rel.lel, hf, fun d hd x H1 e1 p1 => ⟨F, ρ, _, rel.ev e1, hd, fun e he y H2 e2 p2 => by
    obtain ⟨xs, rfl, he'⟩ := onL_ok he
    clear he
    obtain ⟨ys, rfl, hc, hR⟩ := onL_ok he'
    obtain ⟨a, vs, rfl, sx, ax⟩ := (p1.ev e1.hk e2).list
    obtain ⟨b, ws, rfl, sy, ay⟩ := p2.list
    exact ⟨a, b, vs, ws, rfl, rfl, hK ▸ sx, hK ▸ sy, by rw [dps_len ax, dps_len ay]; exact hc, fun p hp => q _ hR p _ _ ((e1.trans e2).trans (ev_lst e2.hk hp)) (new_none (e1.trans e2) hp) upd_same ((sub_hold hp).dps (dps_cat ax ay))⟩⟩⟩
/-- xs[lo:hi], as a new list -/
def slN (f : DE) (lo hi : DO) : DEnv → (List PyData → Prop) → Prop := fun ρ R => f ρ fun d => lo ρ fun l => hi ρ fun h => onL d fun ds => R (cutD ds l h)
theorem n_sl {lo hi : Option Expr} {gl gh : DO} {p2 : Pos} (ha : PP X C κ1 a fa) (hl : PDO X C κ2 lo gl) (hh : PDO X C κ3 hi gh) (hK : C.b.K = X.K := by rfl) : PN X C (κ1 + (κ2 + κ3)) (.Subscript a (.Slice lo hi none p2) pos) (slN fa gl gh) :=
  pe_mono (pe_slice sl_list ha hl hh) fun σ H Q ⟨F, ρ, R, rel, hf, q⟩ => by
    refine ⟨F, ρ, _, rel.lel, hf, fun d hd v H1 e1 p1 => ⟨F, ρ, _, (rel.ev e1).lel, hd, fun l hl H2 e2 => ⟨F, ρ, _, (rel.ev e1).ev e2, hl, fun h hh H3 e3 => ?_⟩⟩⟩
    have p3 := (p1.ev e1.hk e2).ev e2.hk e3
    have all := e1.trans (e2.trans e3)
    obtain ⟨ds, rfl, hR⟩ := onL_ok hh
    obtain ⟨a, vs, rfl, sx, ax⟩ := p3.list
    exact ⟨a, vs, rfl, hK ▸ sx, fun p hp => q _ hR p _ _ (all.trans (ev_lst e3.hk hp)) (new_none all hp) upd_same ((sub_hold hp).dps (dps_cut l h ax))⟩
/-- max of a list of numbers -/
def maxO : PyData → (PyData → Prop) → Prop := fun d R => onL d fun ds => ∃ ns : List Int, ds = ns.map PyData.int ∧ 0 < ns.length ∧ ∀ m, m ∈ ns → (∀ y ∈ ns, y ≤ m) → R (.int m)
theorem c1_max {B : Bc} : C1 B (rMax B.K) maxO := fun F H x d R Q hk px ho q => by
  obtain ⟨ds, rfl, ns, rfl, hn, hR⟩ := onL_ok ho
  obtain ⟨a, vs, rfl, sx, ax⟩ := px.list
  have e := dps_ints ax
  subst e
  exact ⟨a, ns, rfl, sx, hn, fun m hm hy => q _ (hR m hm hy) _ H (.refl hk) (.int _)⟩
theorem d_maxL (hc : X.calm = true) (hg : Gl X "max") (hm : X.mg "max" = none) (ha : PP X C κ e f) (hK : C.b.K = X.K := by rfl) (he : starEach [e] X.env = (false, eval e X.env) :: starEach [] X.env := by rfl) : PD X C κ (.Call (.Name "max" p) [e] [] pos) (b1D maxO f) :=
  d_b1 (cr_max hc) (hK ▸ c1_max) hg hm (by decide +kernel) ha (by decide) (by decide) he
/-- xs.extend(new list) -/
def extN (i : Nat) (f : DEnv → (List PyData → Prop) → Prop) : DS := fun N ρ => slotO ρ[i]? fun ds => f ρ fun es => ds.length + es.length ≤ sizeLine ∧ N.nx (ρ.set i (some (.own (ds ++ es))))
theorem s_extN {i : Nat} {x : Expr} {p2 : Pos} {f : DEnv → (List PyData → Prop) → Prop} (hx : PE X x (tVar i)) {κ : Nat} (he : PN X C κ e f) (hb : PE X x (tVar i) → PA X [e] (tCons (tN C κ f) tNil) → PE X (.Call (.Attribute x "extend" p2) [e] [] pos) (tBM X.K "list" rExtend (tVar i) (tCons (tN C κ f) tNil)) := by exact fun h1 h2 => pe_bm PySem.F.plainAttrs_list PySem.F.slot_list_extend PySem.F.type_list_extend mt_extend h1 h2)
    (hst : starEach [e] X.env = (false, eval e X.env) :: starEach [] X.env := by rfl) {q : Pos} (hs : swapsWith (.Call (.Attribute x "extend" p2) [e] [] pos) none q.line X.env = pure false := by rfl) : PDS X C κ (.Expr (.Call (.Attribute x "extend" p2) [e] [] pos) q) (extN i f) :=
  ps_mono (ps_expr (hb hx (pa_cons he pa_nil hst)) hs) fun D σ H ⟨kk, F, ρ, N, rel, ht, g⟩ => by
    obtain ⟨ds, hi, ht⟩ := slotO_ok ht
    obtain ⟨p, vs, y, hp, dvs, m, up⟩ := rel_upd (es := ds) rel hi
    refine ⟨.ref p, y, .inl ⟨rfl, _, .inl (.inl hp)⟩, F, ρ, _, rel.lel, ht, fun es ⟨hl, hd⟩ a ws H' ev na ha dp => ?_⟩
    obtain ⟨p', vs', y', hp', dvs', m', up'⟩ := rel_upd (es := ds ++ es) (rel.ev ev) hi
    rw [y] at y'
    cases y'
    have dpF : DpAll C.b.K (hide H' F) ws es := (sub_less fun b m => List.mem_cons_of_mem _ m).dps dp
    exact ⟨p, a, vs', ws, rfl, rfl, hp', ha, by rw [dps_len dvs', dps_len dpF]; exact hl, g.nx _ hd F σ _ (up' _ (dps_cat dvs' dpF))⟩
end
end DL

/-! Lists some times over, the feed of two numbers. -/
namespace DL
open PySem PySem.Spec PyProof.Rows L2 GX
section
variable {X : Cx} {C : Cc} {e a b : Expr} {f fa fb : DE} {pos p : Pos}
/-- a new list, some times over -/
def repN (fa : DEnv → (List PyData → Prop) → Prop) (fb : DE) : DEnv → (List PyData → Prop) → Prop := fun ρ R => fa ρ fun ds => fb ρ fun d => onI d fun k => 0 ≤ k ∧ k ≤ 1000 ∧ ds.length ≤ 1000 ∧ R (List.replicate k.toNat ds).flatten
theorem n_rep {fa : DEnv → (List PyData → Prop) → Prop} (ha : PN X C κ1 a fa) (hb : PP X C κ2 b fb) : PN X C (κ1 + κ2) (.BinOp a .Mult b pos) (repN fa fb) :=
  pe_mono (pe_op op_rep ha hb) fun σ H Q ⟨F, ρ, R, rel, hf, q⟩ => ⟨F, ρ, _, rel.lel, hf, fun ds hd l vs H1 e1 nl hl dp => ⟨F, ρ, _, rel.ev e1, hd, fun e he y H2 e2 p2 => by
    obtain ⟨k, rfl, h0, h1, h2, hR⟩ := onI_ok he
    have nT : l ∉ C.b.Ts := tab_no e1.hk.tab hl fun _ z => by cases z
    have ng : C.b.g ≠ some l := g_ne rel.hk nl
    have hl2 := e2.keep l _ hl nT ng
    have d2 : DpAll C.b.K (hide H2 F) vs ds := (e2.sub e1.hk).dps ((sub_less fun b m => List.mem_cons_of_mem _ m).dps dp)
    refine ⟨l, k, vs, rfl, pk_int p2, hl2, by omega, by omega, ?_, fun p hp => q _ hR p _ _ ((e1.trans e2).trans (ev_lst e2.hk hp)) (new_none (e1.trans e2) hp) upd_same ((sub_hold hp).dps (dps_rep d2 _))⟩
    rw [dps_len d2]
    exact Nat.le_trans (Nat.mul_le_mul h2 (show k.toNat ≤ 1000 by omega)) (by decide)⟩⟩
end
/-! ### the feed of two numbers -/
def fd3 (a : Addr) (p q : Int) : HO := .lst [.ref a, .int p, .int q]
/-- a number is drawn: the promise over the heap -/
def spNext (K : PySem.W.Frag) : Sp := fun vs H Q _ => ∃ (g a : Addr) (many : Int) (n0 : Int) (ns : List Int) (p q : Int), vs = [.ref g, .int many] ∧ 1 ≤ many ∧ many ≤ 1000000 ∧ H g = some (fd3 a p q) ∧ 0 ≤ p ∧ p.toNat + 1 ≤ LIM ∧ 0 ≤ q ∧ (∀ o, SqL K (upd H g o) a ((n0 :: ns).map V.int)) ∧
  ∀ (r p' q' : Int), 0 ≤ r → r < many → (p' = p ∨ p' = p + 1) → 0 ≤ q' → Q (.int r) (upd H g (fd3 a p' q'))
theorem next3 {K : PySem.W.Frag} {Ts : List Addr} {g sa : Addr} {n0 : Int} {ns : List Int} {vs : List V} {H : Hp} {Q : VK} {E : XK} (h : spD ⟨K, Ts, some g, sa, n0 :: ns, 2⟩ 1 (specTake 1000000) vs H Q E) : spNext K vs H Q E := by
  obtain ⟨F, ss, R, ⟨hk, hb⟩, a, ho, q⟩ := h
  obtain ⟨many, rfl, h1, h2, hr⟩ := specTake_ok ho
  cases a with
  | cons a1 a2 =>
    cases a2 with
    | cons a2 a3 =>
      cases a3
      obtain ⟨g', e, rfl⟩ := a1
      cases e
      cases a2
      obtain ⟨m, cs, x1, x2, x3, x4⟩ := hk.fd g rfl
      match cs, x2 with
      | [p, qq], _ =>
        have pe : posOf ⟨K, Ts, some g, sa, n0 :: ns, 2⟩ H = p.toNat := by
          show (if (2 : Nat) = 2 then posAt (H g) else 0) = _
          rw [if_pos rfl, x1]
          rfl
        rw [pe] at hb
        have p0 : 0 ≤ p := x3 p (by simp)
        refine ⟨g, sa, many, n0, ns, p, qq, rfl, h1, h2, x1, p0, hb, x3 qq (by simp), fun o => ?_, fun r p' q' hr0 hr1 hp hq => ?_⟩
        · refine Sub.sql (fun b u y _ => ?_) x4
          obtain ⟨y, ny⟩ := hide_some y
          rw [upd_ne fun z => by rw [z] at ny; exact ny m]
          exact y
        · refine q _ (hr r hr0 hr1) _ _ (feed_put (cs := [p', q']) hk rfl rfl (fun c hc => ?_) (fun _ => ?_)) (.int r)
          · simp only [List.mem_cons, List.mem_nil_iff, or_false] at hc
            rcases hc with rfl | rfl
            · omega
            · exact hq
          · rw [pe]
            show p'.toNat ≤ p.toNat + 1
            omega
/-- positions may be multiplied -/
theorem pos_bits {p : Int} (h0 : 0 ≤ p) (h : p.toNat + 1 ≤ LIM) : p.natAbs < 2 ^ 100000 := by
  have : p.natAbs = p.toNat := by omega
  rw [this]
  exact h
theorem mulX1 {p : Int} (h0 : 0 ≤ p) (h : p.toNat + 1 ≤ LIM) {c : Int} (hc : c.natAbs < 2 ^ 64) : CMulX c p := mulx_ok hc (pos_bits h0 h) (by decide)
theorem mulX2 {p : Int} (h0 : 0 ≤ p) (h : p.toNat + 1 ≤ LIM) {c : Int} (hc : c.natAbs < 2 ^ 64) : CMulX (c * p) p := mulx_ok (a := 64 + 100000) (by
  rw [Int.natAbs_mul, Nat.pow_add]
  exact Nat.mul_lt_mul'' hc (pos_bits h0 h)) (pos_bits h0 h) (by decide)
end DL

/-! Data of moderate size: numbers of some fifty figures, a bulk, a depth. -/
namespace DL
open PySem PySem.Spec PyProof.Rows L2 GX
mutual
def okD' (a : Nat) : PyData → Bool
  | .none => true
  | .bool _ => true
  | .int i => decide (i.natAbs ≤ 10 ^ 39 + a)
  | .str x => x.cps.toList.all (· < 16 ^ 8)
  | .list xs => okAll a xs
  | .tuple xs => okAll a xs
  | .dict _ => false
def okAll (a : Nat) : List PyData → Bool
  | [] => true
  | x :: r => okD' a x && okAll a r
end
theorem okAll_iff {a : Nat} : ∀ {ds : List PyData}, okAll a ds = true ↔ ∀ d ∈ ds, okD' a d = true
  | [] => ⟨fun _ _ h => (nomatch h), fun _ => rfl⟩
  | x :: r => by
    show (okD' a x && okAll a r) = true ↔ _
    rw [Bool.and_eq_true, okAll_iff, List.forall_mem_cons]
mutual
theorem ok_mono {a b : Nat} (h : a ≤ b) : ∀ {d : PyData}, okD' a d = true → okD' b d = true
  | .none, _ => rfl
  | .bool _, _ => rfl
  | .int i, z => decide_eq_true (Nat.le_trans (of_decide_eq_true z) (Nat.add_le_add_left h _))
  | .str x, z => z
  | .list xs, z => okAll_mono h z
  | .tuple xs, z => okAll_mono h z
  | .dict _, z => by cases z
theorem okAll_mono {a b : Nat} (h : a ≤ b) : ∀ {ds : List PyData}, okAll a ds = true → okAll b ds = true
  | [], _ => rfl
  | x :: r, z => by
    have z := Bool.and_eq_true_iff.mp (show (okD' a x && okAll a r) = true from z)
    show (okD' b x && okAll b r) = true
    rw [ok_mono h z.1, okAll_mono h z.2]
    rfl
end
theorem int_short {a : Nat} {i : Int} (ha : a ≤ 1000000) (h : i.natAbs ≤ 10 ^ 39 + a) : (PyData.int i).showable = true ∧ (PyData.shown (.int i)).length ≤ 60 ∧ i.natAbs.log2 < 1920 ∧ (Str.ofString (toString i)).length ≤ 60 := by
  have l : i.natAbs < 10 ^ 40 := Nat.lt_of_le_of_lt h (Nat.lt_of_le_of_lt (Nat.add_le_add_left ha _) (by decide +kernel))
  have z : (toString i).length ≤ 40 + 1 := PySem.int_text_length_le10 (by decide) l
  have t : (Str.ofString (toString i)).length ≤ 60 := by
    rw [PySem.ofString_length]
    exact Nat.le_trans z (by decide)
  have lg := log_of l (by decide)
  exact ⟨decide_eq_true lg, t, lg, t⟩
mutual
theorem ok_able {a : Nat} (ha : a ≤ 1000000) : ∀ {d : PyData}, okD' a d = true → d.showable = true ∧ d.leavesShort 60 = true
  | .none, _ => ⟨rfl, rfl⟩
  | .bool _, _ => ⟨rfl, rfl⟩
  | .int i, z => ⟨(int_short ha (of_decide_eq_true z)).1, decide_eq_true (int_short ha (of_decide_eq_true z)).2.1⟩
  | .str x, z => ⟨rfl, z⟩
  | .list xs, z => okAll_able ha z
  | .tuple xs, z => okAll_able ha z
  | .dict _, z => by cases z
theorem okAll_able {a : Nat} (ha : a ≤ 1000000) : ∀ {ds : List PyData}, okAll a ds = true → PyData.showableAll ds = true ∧ PyData.leavesShortAll 60 ds = true
  | [], _ => ⟨rfl, rfl⟩
  | x :: r, z => by
    have z := Bool.and_eq_true_iff.mp (show (okD' a x && okAll a r) = true from z)
    obtain ⟨a1, a2⟩ := ok_able ha z.1
    obtain ⟨b1, b2⟩ := okAll_able ha z.2
    exact ⟨by show (_ && _) = true; rw [a1, b1]; rfl, by show (_ && _) = true; rw [a2, b2]; rfl⟩
end
theorem bulk_tup {ds : List PyData} : (PyData.tuple ds).bulk = PyData.bulkAll ds := rfl
theorem bulk_lst {ds : List PyData} : (PyData.list ds).bulk = PyData.bulkAll ds := rfl
theorem bulkAll_cons {d : PyData} {r : List PyData} : PyData.bulkAll (d :: r) = d.bulk + 1 + PyData.bulkAll r := rfl
theorem bulkAll_cat : ∀ {xs ys : List PyData}, PyData.bulkAll (xs ++ ys) = PyData.bulkAll xs + PyData.bulkAll ys
  | [], ys => (Nat.zero_add _).symm
  | x :: r, ys => by rw [List.cons_append, bulkAll_cons, bulkAll_cons, bulkAll_cat]; omega
theorem bulkAll_len : ∀ {xs : List PyData}, xs.length ≤ PyData.bulkAll xs
  | [] => Nat.le_refl _
  | x :: r => by rw [bulkAll_cons, List.length_cons]; have := bulkAll_len (xs := r); omega
theorem bulkAll_mem : ∀ {xs : List PyData} {d : PyData}, d ∈ xs → d.bulk + 1 ≤ PyData.bulkAll xs
  | x :: r, d, m => by
    rw [bulkAll_cons]
    rcases List.mem_cons.mp m with rfl | m
    · omega
    · have := bulkAll_mem m
      omega
theorem bulkAll_rev : ∀ {xs : List PyData}, PyData.bulkAll xs.reverse = PyData.bulkAll xs
  | [] => rfl
  | x :: r => by
    rw [List.reverse_cons, bulkAll_cat, bulkAll_rev, bulkAll_cons, bulkAll_cons]
    show _ + (_ + 1 + 0) = _
    omega
theorem bulkAll_each {n : Nat} : ∀ {xs : List PyData}, (∀ d ∈ xs, d.bulk ≤ n) → PyData.bulkAll xs ≤ xs.length * (n + 1)
  | [], _ => Nat.zero_le _
  | x :: r, h => by
    rw [bulkAll_cons, List.length_cons, Nat.succ_mul]
    have := h x (List.mem_cons_self ..)
    have := bulkAll_each fun d m => h d (List.mem_cons_of_mem x m)
    omega
theorem bulkAll_at {ds : List PyData} {m : Nat} {x : PyData} (h : ds[m]? = some x) : PyData.bulkAll (ds.take m) + (x.bulk + 1) + PyData.bulkAll (ds.drop (m + 1)) = PyData.bulkAll ds := by
  have l : m < ds.length := (List.getElem?_eq_some_iff.mp h).1
  have e : ds[m] = x := (List.getElem?_eq_some_iff.mp h).2
  have z := List.take_append_drop m ds
  rw [List.drop_eq_getElem_cons l, e] at z
  have w := congrArg PyData.bulkAll z
  rw [bulkAll_cat, bulkAll_cons] at w
  omega
/-- of moderate size -/
structure Md (a b k : Nat) (d : PyData) : Prop where
  ok : okD' a d = true
  bulk : d.bulk ≤ b
  depth : d.depth ≤ k
theorem Md.mono {a b k a' b' k' : Nat} {d : PyData} (h : Md a b k d) (h1 : a ≤ a') (h2 : b ≤ b') (h3 : k ≤ k') : Md a' b' k' d := ⟨ok_mono h1 h.ok, Nat.le_trans h.bulk h2, Nat.le_trans h.depth h3⟩
theorem md_tup {a b k : Nat} {ds : List PyData} : Md a b (k + 1) (.tuple ds) ↔ (∀ d ∈ ds, okD' a d = true) ∧ PyData.bulkAll ds ≤ b ∧ ∀ d ∈ ds, d.depth ≤ k :=
  ⟨fun h => ⟨okAll_iff.mp h.ok, h.bulk, depth_tup.mp h.depth⟩, fun h => ⟨okAll_iff.mpr h.1, h.2.1, depth_tup.mpr h.2.2⟩⟩
theorem md_lst {a b k : Nat} {ds : List PyData} : Md a b (k + 1) (.list ds) ↔ (∀ d ∈ ds, okD' a d = true) ∧ PyData.bulkAll ds ≤ b ∧ ∀ d ∈ ds, d.depth ≤ k :=
  ⟨fun h => ⟨okAll_iff.mp h.ok, h.bulk, depth_lst.mp h.depth⟩, fun h => ⟨okAll_iff.mpr h.1, h.2.1, depth_lst.mpr h.2.2⟩⟩
theorem Md.mem {a b k : Nat} {ds : List PyData} {d : PyData} (h : Md a b (k + 1) (.tuple ds)) (m : d ∈ ds) : Md a (b - 1) k d := ⟨(md_tup.mp h).1 d m, by have := bulkAll_mem m; have := (md_tup.mp h).2.1; omega, (md_tup.mp h).2.2 d m⟩
theorem Md.len {a b k : Nat} {ds : List PyData} (h : Md a b k (.tuple ds)) : ds.length ≤ b := Nat.le_trans bulkAll_len h.bulk
theorem Md.lenL {a b k : Nat} {ds : List PyData} (h : Md a b k (.list ds)) : ds.length ≤ b := Nat.le_trans bulkAll_len h.bulk
theorem Md.no0 {a b : Nat} {ds : List PyData} : ¬ Md a b 0 (.tuple ds) := fun h => by
  have := h.depth
  have e : (PyData.tuple ds).depth = PyData.depthAll ds + 1 := rfl
  omega
theorem md_non {a b k : Nat} : Md a b k .none := ⟨rfl, Nat.zero_le _, Nat.zero_le _⟩
theorem md_bl {a b k : Nat} {c : Bool} : Md a b k (.bool c) := ⟨rfl, Nat.zero_le _, Nat.zero_le _⟩
theorem md_int {a b k : Nat} {i : Int} (h : i.natAbs ≤ 10 ^ 39 + a) : Md a b k (.int i) := ⟨decide_eq_true h, Nat.zero_le _, Nat.zero_le _⟩
theorem md_small {a b k : Nat} {i : Int} (h : i.natAbs ≤ 1000000) : Md a b k (.int i) := md_int (Nat.le_trans h (Nat.le_trans (by decide +kernel) (Nat.le_add_right _ _)))
theorem md_str {a b k : Nat} {x : Str} (h : x.cps.toList.all (· < 16 ^ 8) = true) (l : x.length ≤ b) : Md a b k (.str x) := ⟨h, l, Nat.zero_le _⟩
/-- it can be shown -/
theorem Md.sh {a b k : Nat} {d : PyData} (h : Md a b k d) (ha : a ≤ 1000000) (hb : b ≤ 200000) (hk : k ≤ 60) : d.showable = true ∧ d.depth ≤ 100 ∧ d.shown.length ≤ sizeLine := by
  obtain ⟨h1, h2⟩ := ok_able ha h.ok
  have z := PyData.shown_le_bulk 60 (by decide) d h2
  have y : 62 * d.bulk ≤ 62 * 200000 := Nat.mul_le_mul_left _ (Nat.le_trans h.bulk hb)
  exact ⟨h1, Nat.le_trans h.depth (by omega), Nat.le_trans z (by show (60 + 2) * d.bulk + 60 ≤ 2 ^ 24; omega)⟩
/-- the bent thing: at most twice as much, and somewhat more -/
theorem md_put {a b k : Nat} {ds : List PyData} {m : Nat} {x z : PyData} (h : Md a b (k + 1) (.tuple ds)) (hm : ds[m]? = some x) (hz : okD' (a + 1) z = true) (hb : z.bulk ≤ 2 * x.bulk + 100) (hd : z.depth ≤ k + 1) :
    Md (a + 1) (2 * b + 100) (k + 2) (.tuple (ds.take m ++ [z] ++ ds.drop (m + 1))) := by
  obtain ⟨h1, h2, h3⟩ := md_tup.mp h
  refine md_tup.mpr ⟨fun d hd' => ?_, ?_, fun d hd' => ?_⟩
  · rcases List.mem_append.mp hd' with hd' | hd'
    · rcases List.mem_append.mp hd' with hd' | hd'
      · exact ok_mono (by omega) (h1 d (List.mem_of_mem_take hd'))
      · rw [List.mem_singleton.mp hd']
        exact hz
    · exact ok_mono (by omega) (h1 d (List.mem_of_mem_drop hd'))
  · have := bulkAll_at hm
    rw [bulkAll_cat, bulkAll_cat, bulkAll_cons]
    show _ + (_ + 1 + 0) + _ ≤ _
    omega
  · rcases List.mem_append.mp hd' with hd' | hd'
    · rcases List.mem_append.mp hd' with hd' | hd'
      · exact Nat.le_succ_of_le (h3 d (List.mem_of_mem_take hd'))
      · rw [List.mem_singleton.mp hd']
        exact hd
    · exact Nat.le_succ_of_le (h3 d (List.mem_of_mem_drop hd'))
/-! ### rising rows -/
def riseB : List PyData → Bool
  | x :: y :: r => PySem.W.dataLt x y && riseB (y :: r)
  | _ => true
theorem riseB_at : ∀ {ds : List PyData}, riseB ds = true ↔ ∀ (i : Nat) (x y : PyData), ds[i]? = some x → ds[i + 1]? = some y → PySem.W.dataLt x y = true
  | [] => ⟨fun _ i x y h => by simp at h, fun _ => rfl⟩
  | [x] => ⟨fun _ i x y h h2 => by simp at h2, fun _ => rfl⟩
  | x :: y :: r => by
    show (PySem.W.dataLt x y && riseB (y :: r)) = true ↔ _
    rw [Bool.and_eq_true, riseB_at]
    constructor
    · rintro ⟨h1, h2⟩ i u v hu hv
      cases i with
      | zero =>
        simp at hu hv
        subst hu hv
        exact h1
      | succ i => exact h2 i u v (by simpa using hu) (by simpa using hv)
    · intro h
      exact ⟨h 0 x y rfl rfl, fun i u v hu hv => h (i + 1) u v (by simpa using hu) (by simpa using hv)⟩
theorem atI_get {ds : List PyData} {i : Nat} {x : PyData} (h : ds[i]? = some x) : atI ds (i : Int) = some x := atI_nat h
theorem rngD_mem {lo : Int} {n : Nat} {d : PyData} (h : d ∈ rngD lo n) : ∃ i : Nat, i < n ∧ d = .int (lo + i) := by
  unfold rngD at h
  obtain ⟨i, hi, rfl⟩ := List.mem_map.mp h
  exact ⟨i, List.mem_range.mp hi, rfl⟩
theorem rngD_len {lo : Int} {n : Nat} : (rngD lo n).length = n := by unfold rngD; rw [List.length_map, List.length_range]
end DL

/-! Helpers: maps and filters as comprehensions, seats, loops by steps. -/
namespace DL
open PySem PySem.Spec PyProof.Rows L2 GX
/-- [f(x) for x in ds] -/
theorem lc_mapD {f : PyData → PyData} {i : Nat} {fe : DE} {ρ : DEnv} {R : List PyData → Prop} : ∀ (ds acc : List PyData), acc.length + ds.length < sizeLine → (∀ d ∈ ds, ∀ Q : PyData → Prop, Q (f d) → fe (ρ.set i (some (.d d))) Q) → R (acc ++ ds.map f) → lcD (gN i) yesT fe ρ R ds acc
  | [], acc, _, _, h => by rw [List.map_nil, List.append_nil] at h; exact h
  | d :: r, acc, hl, he, h => by
    rw [List.length_cons] at hl
    refine he d (List.mem_cons_self ..) _ ⟨by omega, lc_mapD r _ (by rw [List.length_append, List.length_singleton]; omega) (fun x hx => he x (List.mem_cons_of_mem _ hx)) ?_⟩
    rw [List.map_cons] at h
    rw [List.append_assoc]
    exact h
theorem btw_int {d : PyData} {lo hi : Int} (h : NA.btwD d lo hi = true) : ∃ i, d = .int i ∧ lo ≤ i ∧ i ≤ hi := by
  cases d with
  | int i =>
    have h := Bool.and_eq_true_iff.mp (show (decide (lo ≤ i) && decide (i ≤ hi)) = true from h)
    exact ⟨i, rfl, of_decide_eq_true h.1, of_decide_eq_true h.2⟩
  | _ => cases h
theorem int_btw {i lo hi : Int} (h1 : lo ≤ i) (h2 : i ≤ hi) : NA.btwD (.int i) lo hi = true := by
  show (decide (lo ≤ i) && decide (i ≤ hi)) = true
  rw [decide_eq_true h1, decide_eq_true h2]
  rfl
theorem from_int {d : PyData} {lo : Int} (h : NA.fromD d lo = true) : ∃ i, d = .int i ∧ lo ≤ i := by
  cases d with
  | int i => exact ⟨i, rfl, of_decide_eq_true h⟩
  | _ => cases h
theorem ints_of : ∀ {ds : List PyData}, (∀ d ∈ ds, ∃ i, d = .int i ∧ NA.Sm i) → ∃ ns : List Int, ds = ns.map PyData.int ∧ ∀ i ∈ ns, NA.Sm i
  | [], _ => ⟨[], rfl, fun _ m => (nomatch m)⟩
  | d :: r, h => by
    obtain ⟨i, rfl, s⟩ := h d (List.mem_cons_self ..)
    obtain ⟨ns, rfl, m⟩ := ints_of fun x hx => h x (List.mem_cons_of_mem _ hx)
    exact ⟨i :: ns, rfl, fun j hj => (List.mem_cons.mp hj).elim (fun e => e ▸ s) (m j)⟩
/-- a seat is a row of numbers -/
theorem seat_ints {d : PyData} (h : NA.seatD d = true) : ∃ (n0 : Int) (ns : List Int), d = NA.dInts (n0 :: ns) ∧ ns.length ≤ 4 ∧ ∀ i ∈ n0 :: ns, NA.Sm i := by
  cases d with
  | tuple ds =>
    cases ds with
    | nil => cases h
    | cons x r =>
      have h := Bool.and_eq_true_iff.mp (show (decide (r.length ≤ 4) && (NA.btwD x 0 3 && r.all fun y => NA.btwD y 1 99)) = true from h)
      have h2 := Bool.and_eq_true_iff.mp h.2
      have l := of_decide_eq_true h.1
      obtain ⟨ns, e, m⟩ := ints_of (ds := r) fun d hd => by
        obtain ⟨i, e, a, b⟩ := btw_int (List.all_eq_true.mp h2.2 d hd)
        exact ⟨i, e, by omega, by omega⟩
      obtain ⟨i, e0, a, b⟩ := btw_int h2.1
      refine ⟨i, ns, by rw [e0, e]; rfl, ?_, fun j hj => (List.mem_cons.mp hj).elim (fun e => e ▸ ⟨by omega, by omega⟩) (m j)⟩
      have := congrArg List.length e
      rw [List.length_map] at this
      omega
  | _ => cases h
theorem alike_seats {d e : PyData} (hd : NA.seatD d = true) (he : NA.seatD e = true) : cOrd d e ∧ ∀ i, d ≠ .int i := by
  obtain ⟨n, ns, rfl, _⟩ := seat_ints hd
  obtain ⟨m, ms, rfl, _⟩ := seat_ints he
  refine ⟨⟨PySem.W.alike_ints (n :: ns) (m :: ms), (fun z => nomatch z), ?_⟩, fun i z => nomatch z⟩
  have : (NA.dInts (n :: ns)).depth ≤ 1 := by
    show PyData.depthAll ((n :: ns).map PyData.int) + 1 ≤ 1
    rw [PySem.W.depth_ints]
    exact Nat.le_refl 1
  exact Nat.le_trans (Nat.min_le_left _ _) (by omega)
theorem md_seat {a b k : Nat} {d : PyData} (h : NA.seatD d = true) (hb : 5 ≤ b) (hk : 1 ≤ k) : Md a b k d := by
  obtain ⟨n, ns, rfl, l, m⟩ := seat_ints h
  obtain ⟨k, rfl⟩ : ∃ j, k = j + 1 := ⟨k - 1, by omega⟩
  refine md_tup.mpr ⟨fun d hd => ?_, ?_, fun d hd => ?_⟩
  · obtain ⟨i, hi, rfl⟩ := List.mem_map.mp hd
    have := m i hi
    exact (md_small (a := a) (b := 0) (k := 0) (i := i) (by obtain ⟨h1, h2⟩ := this; omega)).ok
  · have z := bulkAll_each (n := 0) (xs := (n :: ns).map PyData.int) fun d hd => by
      obtain ⟨i, hi, rfl⟩ := List.mem_map.mp hd
      exact Nat.le_refl _
    rw [List.length_map, List.length_cons] at z
    omega
  · obtain ⟨i, hi, rfl⟩ := List.mem_map.mp hd
    exact Nat.zero_le _
theorem seat_tup {d : PyData} (h : NA.seatD d = true) : ∃ x r, d = .tuple (x :: r) := by
  obtain ⟨n, ns, rfl, _⟩ := seat_ints h
  exact ⟨_, _, rfl⟩
theorem seat_mk {n : Int} {ns : List Int} (h0 : 0 ≤ n) (h3 : n ≤ 3) (hl : ns.length ≤ 4) (h : ∀ i ∈ ns, 1 ≤ i ∧ i ≤ 99) : NA.seatD (NA.dInts (n :: ns)) = true := by
  show (decide ((ns.map PyData.int).length ≤ 4) && (NA.btwD (.int n) 0 3 && (ns.map PyData.int).all fun y => NA.btwD y 1 99)) = true
  rw [decide_eq_true (by rw [List.length_map]; exact hl), int_btw h0 h3]
  show ((ns.map PyData.int).all fun y => NA.btwD y 1 99) = true
  rw [List.all_eq_true]
  intro d hd
  obtain ⟨i, hi, rfl⟩ := List.mem_map.mp hd
  exact int_btw (h i hi).1 (h i hi).2
/-! ### what is left by a filter -/
theorem eq_nil {l : List PyData} : PyData.eqv (.list l) (.list []) = l.isEmpty := by cases l <;> rfl
theorem none_leftD (f : PyData → Bool) : ∀ r : List PyData, (r.filter fun y => !f y).isEmpty = r.all f
  | [] => rfl
  | y :: r => by
    rw [List.all_cons, List.filter_cons]
    cases h : f y with
    | true => simpa using none_leftD f r
    | false => simp
/-- [x for x in ds if not f(x)] == [] -/
theorem left_nil {f : PyData → Bool} {i : Nat} {gt : DT} {fe : DE} {ρ : DEnv} {R : PyData → Prop} {ds : List PyData} (hl : ds.length < sizeLine) (ht : ∀ d ∈ ds, ∀ Q : Bool → Prop, Q (!f d) → gt (ρ.set i (some (.d d))) Q) (he : ∀ d ∈ ds, ∀ Q : PyData → Prop, Q d → fe (ρ.set i (some (.d d))) Q) (h : R (.bool (ds.all f))) :
    lcD (gN i) gt fe ρ (fun zs => ([] : List PyData).length ≤ sizeLine ∧ eqO (.list zs) (.list []) R) ds [] := by
  refine lc_filter (p := fun y => !f y) (by simpa using hl) ht he ⟨Nat.zero_le _, ?_, ?_⟩
  · exact Nat.le_trans (Nat.min_le_right _ _) (by show 0 + 1 ≤ 64; decide)
  · rw [eq_nil, List.nil_append, none_leftD]
    exact h
theorem left_some {f : PyData → Bool} {i : Nat} {gt : DT} {fe : DE} {ρ : DEnv} {R : PyData → Prop} {ds : List PyData} (hl : ds.length < sizeLine) (ht : ∀ d ∈ ds, ∀ Q : Bool → Prop, Q (!f d) → gt (ρ.set i (some (.d d))) Q) (he : ∀ d ∈ ds, ∀ Q : PyData → Prop, Q d → fe (ρ.set i (some (.d d))) Q) (h : R (.bool (!ds.all f))) :
    lcD (gN i) gt fe ρ (fun zs => ([] : List PyData).length ≤ sizeLine ∧ neO (.list zs) (.list []) R) ds [] := by
  refine lc_filter (p := fun y => !f y) (by simpa using hl) ht he ⟨Nat.zero_le _, ?_, ?_⟩
  · exact Nat.le_trans (Nat.min_le_right _ _) (by show 0 + 1 ≤ 64; decide)
  · show R (.bool (!PyData.eqv (.list ([] ++ ds.filter fun y => !f y)) (.list [])))
    rw [eq_nil, List.nil_append, none_leftD]
    exact h
/-! ### loops by steps -/
theorem for_steps {g : DG} {t : DS} {N : DEnds} (J : Nat → DEnv → Prop) : ∀ {ds : List PyData} {i : Nat}, (∀ d ∈ ds, ∀ j, i ≤ j → j < i + ds.length → ∀ ρ, J j ρ → g d ρ fun ρ' => ∀ N' : DEnds, (∀ ρ2, J (j + 1) ρ2 → N'.nx ρ2) → (∀ ρ2, J (j + 1) ρ2 → N'.ct ρ2) → (∀ z, N.rt z → N'.rt z) → t N' ρ') → ∀ {ρ}, J i ρ → (∀ ρ2, J (i + ds.length) ρ2 → N.nx ρ2) → (∀ d ∈ ds, ∀ ρ (P Q : DEnv → Prop), (∀ ρ', P ρ' → Q ρ') → g d ρ P → g d ρ Q) → forD g t N ds ρ := by
  intro ds
  induction ds with
  | nil => exact fun {i} _ {ρ} j h _ => h ρ j
  | cons d r ih =>
    intro i hs ρ j h mono
    rw [List.length_cons] at h hs
    have z := hs d (List.mem_cons_self ..) i (Nat.le_refl _) (by omega) ρ j
    refine mono d (List.mem_cons_self ..) ρ _ _ (fun ρ' hρ => ?_) z
    have step : ∀ ρ2, J (i + 1) ρ2 → forD g t N r ρ2 := fun ρ2 j2 => ih (i := i + 1) (fun x hx k h1 h2 => hs x (List.mem_cons_of_mem _ hx) k (by omega) (by omega)) j2 (fun ρ3 j3 => h ρ3 (by rw [show i + (r.length + 1) = i + 1 + r.length by omega]; exact j3)) fun x hx => mono x (List.mem_cons_of_mem _ hx)
    exact hρ _ step step fun z h => h
/-! ### written data -/
def mdB (a b k : Nat) (d : PyData) : Bool := okD' a d && (decide (d.bulk ≤ b) && decide (d.depth ≤ k))
theorem md_of {a b k : Nat} {d : PyData} (h : mdB a b k d = true) : Md a b k d := by
  unfold mdB at h
  rw [Bool.and_eq_true, Bool.and_eq_true] at h
  exact ⟨h.1, of_decide_eq_true h.2.1, of_decide_eq_true h.2.2⟩
theorem text_ok (i : Int) : (Str.ofString (toString i)).cps.toList.all (· < 16 ^ 8) = true := by
  rw [List.all_eq_true]
  intro c hc
  rw [signs_ofString] at hc
  obtain ⟨x, hx, rfl⟩ := List.mem_map.mp hc
  have := int_ascii i x hx
  exact decide_eq_true (Nat.lt_trans this (by decide))
theorem few {n : Nat} (l : n ≤ 1000000) : n ≤ sizeLine := Nat.le_trans l (by decide)
theorem fewer {n : Nat} (l : n ≤ 1000000) : n < sizeLine := Nat.lt_of_le_of_lt l (by decide)
theorem cmS {x y : Str} : cMin (.str x) (.str y) := by show min 0 0 ≤ 64; decide
theorem rep_same {b c : Bool} (e : b = c) : PyData.eqv (.str (PyData.bool b).shown) (.str (PyData.bool c).shown) = true := by
  subst e
  exact eqv_str _
/-- xs[1:] -/
theorem tail1 {x : PyData} {r : List PyData} {k : List PyData → Prop} (h : k r) : slO (some 1) none (.tuple (x :: r)) fun d => onO (walkD d) k := by
  show onO (walkD (.tuple (DL.cutD (x :: r) (some 1) none))) k
  rw [show DL.cutD (x :: r) (some 1) none = r from cutD1]
  exact h
def headD : PyData → PyData
  | .tuple (x :: _) => x
  | _ => .none
end DL

/-! One step at a time through a reading. -/
namespace DL
open PySem PySem.Spec PyProof.Rows L2 GX
section
variable {N : DEnds} {ρ : DEnv} {t u : DS} {f fa fb fc : DE} {g ga gb : DT} {gg : DG} {i : Nat} {R : PyData → Prop} {RB : Bool → Prop} {RL : List PyData → Prop} {RS : List SV → Prop} {d e : PyData} {ds : List PyData}
theorem i_seq (h : t { N with nx := u N } ρ) : seqS t u N ρ := h
theorem i_ret (h : f ρ N.rt) : retS f N ρ := h
theorem i_retN (h : N.rt .none) : retNS N ρ := h
theorem i_nil (h : N.nx ρ) : nilS N ρ := h
theorem i_if (h : g ρ fun b => if b = true then t N ρ else u N ρ) : ifS g t u N ρ := h
theorem i_asg (h : f ρ fun d => gg d ρ N.nx) : asgS f gg N ρ := h
theorem i_own {f : DEnv → (List PyData → Prop) → Prop} (h : f ρ fun ds => N.nx (ρ.set i (some (.own ds)))) : ownS i f N ρ := h
theorem i_app (e : ρ[i]? = some (some (.own ds))) (h : f ρ fun d => ds.length < sizeLine ∧ N.nx (ρ.set i (some (.own (ds ++ [d]))))) : appS i f N ρ := by unfold appS; rw [e]; exact h
theorem i_ext {f : DEnv → (List PyData → Prop) → Prop} (e : ρ[i]? = some (some (.own ds))) (h : f ρ fun es => ds.length + es.length ≤ sizeLine ∧ N.nx (ρ.set i (some (.own (ds ++ es))))) : extN i f N ρ := by unfold extN; rw [e]; exact h
theorem i_frz (e : ρ[i]? = some (some (.own ds))) (h : t N (ρ.set i (some (.d (.list ds))))) : frzS i t N ρ := by unfold frzS; rw [e]; exact h
theorem i_for {fi : DEnv → (List PyData → Prop) → Prop} (h : fi ρ fun ds => forD gg t N ds ρ) : forS fi gg t N ρ := h
theorem i_forL {L : Nat} {fi : DEnv → (List PyData → Prop) → Prop} (h : fi ρ fun ds => ds.length ≤ L ∧ forD gg t N ds ρ) : forSL L fi gg t N ρ := h
theorem i_v (e : ρ[i]? = some (some (.d d))) (h : R d) : vD i ρ R := by unfold vD; rw [e]; exact h
theorem i_vP (e : ρ[i]? = some (some (.d d))) (h : R d) : vP i ρ R := by unfold vP; rw [e]; exact h
theorem i_vO (e : ρ[i]? = some (some (.own ds))) (h : R (.list ds)) : vP i ρ R := by unfold vP; rw [e]; exact h
theorem i_c (h : R d) : cD d ρ R := h
theorem i_o {o : D2} (h : fa ρ fun d => fb ρ fun e => o d e R) : oD o fa fb ρ R := h
theorem i_ch {o o' : D2} (h : fa ρ fun d => fb ρ fun e => o d e fun z => onB z fun k => if k = true then fc ρ fun w => o' e w R else R (.bool false)) : chD o o' fa fb fc ρ R := h
theorem i_tr (h : f ρ fun d => onB d RB) : tr f ρ RB := h
theorem i_tru (h : f ρ fun d => (∀ x, d = .str x → x.length ≤ sizeLine) ∧ RB d.truthy) : truD f ρ RB := h
theorem i_andT (h : ga ρ fun c => if c = true then gb ρ RB else RB false) : andT ga gb ρ RB := h
theorem i_orT (h : ga ρ fun c => if c = true then RB true else gb ρ RB) : orT ga gb ρ RB := h
theorem i_notT (h : ga ρ fun c => RB (!c)) : notT ga ρ RB := h
theorem i_andD (h : fa ρ fun d => onB d fun c => if c = true then fb ρ R else R (.bool false)) : andD fa fb ρ R := h
theorem i_orD (h : fa ρ fun d => onB d fun c => if c = true then R (.bool true) else fb ρ R) : orD fa fb ρ R := h
theorem i_notD (h : fa ρ fun d => onB d fun c => R (.bool (!c))) : notD fa ρ R := h
theorem i_ifD (h : g ρ fun c => if c = true then fa ρ R else fb ρ R) : ifD g fa fb ρ R := h
theorem i_isi {k : PyData → Bool} (h : f ρ fun d => R (.bool (k d))) : isiD k f ρ R := h
theorem i_b1 {o : PyData → (PyData → Prop) → Prop} (h : f ρ fun d => o d R) : b1D o f ρ R := h
theorem i_m1 {m : Str → PyData → (PyData → Prop) → Prop} (h : fa ρ fun d => onS d fun a => fb ρ fun e => m a e R) : m1D m fa fb ρ R := h
theorem i_neg (h : f ρ fun d => onI d fun i => R (.int (-i))) : negD f ρ R := h
theorem i_call {spec : SpecD} {g : DAs} (h : g ρ fun ss => spec ss R) : callD spec g ρ R := h
theorem i_callL {spec : SpecD} {g : DAs} {a : Addr} (e : ρ[i]? = some (some (.fn a))) (h : g ρ fun ss => spec ss R) : callL i a spec g ρ R := ⟨e, h⟩
theorem i_dSA {g : DAs} (h : f ρ fun d => g ρ fun ss => RS (.d d :: ss)) : dSA f g ρ RS := h
theorem i_feedSA {g : DAs} (e : ρ[i]? = some (some .feed)) (h : g ρ fun ss => RS (.feed :: ss)) : feedSA i g ρ RS := by unfold feedSA; rw [e]; exact h
theorem i_fnSA {g : DAs} {a : Addr} (h : g ρ fun ss => RS (.fn a :: ss)) : fnSA a g ρ RS := h
theorem i_nilSA (h : RS []) : nilSA ρ RS := h
theorem i_tup {g : DA} (h : g ρ fun ds => ds.length ≤ sizeLine ∧ R (.tuple ds)) : tupD g ρ R := h
theorem i_lst {g : DA} (h : g ρ fun ds => ds.length ≤ sizeLine ∧ RL ds) : lstN g ρ RL := h
theorem i_asL {f : DEnv → (List PyData → Prop) → Prop} (h : f ρ fun ds => R (.list ds)) : asL f ρ R := h
theorem i_nilA (h : RL []) : nilA ρ RL := h
theorem i_consA {g : DA} (h : f ρ fun d => g ρ fun ds => RL (d :: ds)) : consA f g ρ RL := h
theorem i_sl {lo hi : DO} (h : f ρ fun d => lo ρ fun l => hi ρ fun h => slO l h d R) : slD f lo hi ρ R := h
theorem i_slN {lo hi : DO} (h : f ρ fun d => lo ρ fun l => hi ρ fun h => onL d fun ds => RL (cutD ds l h)) : slN f lo hi ρ RL := h
theorem i_noO {Q : Option Int → Prop} (h : Q none) : noO ρ Q := h
theorem i_someO {Q : Option Int → Prop} (h : f ρ fun d => onI d fun i => Q (some i)) : someO f ρ Q := h
theorem i_rev (h : f ρ fun d => onT d fun ds => R (.tuple ds.reverse)) : revD f ρ R := h
theorem i_gN {Q : DEnv → Prop} (h : Q (ρ.set i (some (.d d)))) : gN i d ρ Q := h
theorem i_gT {n : Nat} {gs : DGs} {Q : DEnv → Prop} (hl : ds.length = n) (h : gs ds ρ Q) : gTupD n gs (.tuple ds) ρ Q := ⟨hl, h⟩
theorem i_gC {gs : DGs} {Q : DEnv → Prop} (h : gg d ρ fun ρ' => gs ds ρ' Q) : gConss gg gs (d :: ds) ρ Q := h
theorem i_gNil {Q : DEnv → Prop} (h : Q ρ) : gNils [] ρ Q := h
theorem i_lc {fi : DEnv → (List PyData → Prop) → Prop} {vs : List Nat} (h : fi ρ fun ds => lcD gg g f (wipeD ρ vs) RL ds []) : lcN fi vs gg g f ρ RL := h
theorem i_lcL {L : Nat} {fi : DEnv → (List PyData → Prop) → Prop} {vs : List Nat} (h : fi ρ fun ds => ds.length ≤ L ∧ lcD gg g f (wipeD ρ vs) RL ds []) : lcNL L fi vs gg g f ρ RL := h
theorem i_aa {b : Bool} {fi : DEnv → (List PyData → Prop) → Prop} {vs : List Nat} (h : fi ρ fun ds => aaD b gg g f (wipeD ρ vs) R ds) : aaN b fi vs gg g f ρ R := h
theorem i_tupN {fi : DEnv → (List PyData → Prop) → Prop} {vs : List Nat} (h : fi ρ fun ds => lcD gg g f (wipeD ρ vs) (fun zs => zs.length ≤ sizeLine ∧ R (.tuple zs)) ds []) : tupN fi vs gg g f ρ R := h
theorem i_seqI (h : f ρ fun d => onO (walkD d) RL) : seqI f ρ RL := h
theorem i_rg1 (h : f ρ fun d => onI d fun j => -(2 ^ 62) ≤ j ∧ j < 2 ^ 62 ∧ RL (rngD 0 j.toNat)) : rng1 f ρ RL := h
theorem i_rg2 (h : fa ρ fun d => fb ρ fun e => onI d fun i => onI e fun j => (-(2 ^ 62) ≤ i ∧ i < 2 ^ 62 ∧ -(2 ^ 62) ≤ j ∧ j < 2 ^ 62) ∧ RL (rngD i (j - i).toNat)) : rng2 fa fb ρ RL := h
theorem i_cat (h : fa ρ fun d => fb ρ fun e => onL d fun xs => onL e fun ys => xs.length + ys.length ≤ sizeLine ∧ RL (xs ++ ys)) : catN fa fb ρ RL := h
theorem i_list1 (h : f ρ fun d => onO (itemsD d) RL) : list1N f ρ RL := h
theorem i_sort (h : f ρ fun d => onL d fun ds => PySem.W.AllAlike ds ∧ PySem.W.Sortable ds ∧ (∀ d ∈ ds, d.depth ≤ 60) ∧ RL (srt ds)) : sortN f ρ RL := h
theorem i_yes (h : RB true) : yesT ρ RB := h
theorem i_dict {P : Program} {w : World} {K : PySem.W.Frag} {f : DEnv → (List PyData → Prop) → Prop} (h : f ρ fun ds => ∃ Pv, ds.length ≤ 1000 ∧ PairsD Pv ds ∧ ∀ ks : List (List Int), ks.length ≤ ds.length → N.nx (ρ.set i (some (dctV P w K ks Pv)))) : dictS P w K i f N ρ := h
theorem i_rep {fa : DEnv → (List PyData → Prop) → Prop} (h : fa ρ fun ds => fb ρ fun d => onI d fun k => 0 ≤ k ∧ k ≤ 1000 ∧ ds.length ≤ 1000 ∧ RL (List.replicate k.toNat ds).flatten) : repN fa fb ρ RL := h
theorem i_slL {lo hi : Option Int} (h : R (.list (DL.cutD ds lo hi))) : slO lo hi (.list ds) R := h
theorem i_slT {lo hi : Option Int} (h : R (.tuple (DL.cutD ds lo hi))) : slO lo hi (.tuple ds) R := h
/-! what stands there is known -/
theorem i_onB {b : Bool} {k : Bool → Prop} (h : k b) : onB (.bool b) k := h
theorem i_onI {j : Int} {k : Int → Prop} (h : k j) : onI (.int j) k := h
theorem i_onS {x : Str} {k : Str → Prop} (h : k x) : onS (.str x) k := h
theorem i_onT {k : List PyData → Prop} (h : k ds) : onT (.tuple ds) k := h
theorem i_onL {k : List PyData → Prop} (h : k ds) : onL (.list ds) k := h
theorem i_wT {k : List PyData → Prop} (h : k ds) : onO (walkD (.tuple ds)) k := h
theorem i_wL {k : List PyData → Prop} (h : k ds) : onO (walkD (.list ds)) k := h
theorem i_wS {x : Str} {k : List PyData → Prop} (h : k (signsD x)) : onO (walkD (.str x)) k := h
theorem i_itT {k : List PyData → Prop} (h : k ds) : onO (itemsD (.tuple ds)) k := h
theorem i_itL {k : List PyData → Prop} (h : k ds) : onO (itemsD (.list ds)) k := h
theorem i_lenT (h : R (.int ds.length)) : lenO (.tuple ds) R := h
theorem i_lenL (h : R (.int ds.length)) : lenO (.list ds) R := h
theorem i_ix0 {x : PyData} {r : List PyData} (h : R x) : ixO (.tuple (x :: r)) (.int 0) R := onAt0 h
theorem i_ix1 {x y : PyData} {r : List PyData} (h : R y) : ixO (.tuple (x :: y :: r)) (.int 1) R := onAt1 h
theorem i_ix2 {x y z : PyData} {r : List PyData} (h : R z) : ixO (.tuple (x :: y :: z :: r)) (.int 2) R := onAt2 h
theorem i_ix3 {x y z w : PyData} {r : List PyData} (h : R w) : ixO (.tuple (x :: y :: z :: w :: r)) (.int 3) R := by
  show onO (atI _ 3) R
  rw [show atI (x :: y :: z :: w :: r) 3 = some w from atI_nat (j := 3) rfl]
  exact h
theorem i_tuple1L (h : R (.tuple ds)) : tuple1O (.list ds) R := h
theorem i_tuple1T (h : R (.tuple ds)) : tuple1O (.tuple ds) R := h
theorem i_addI {i j : Int} (h : R (.int (i + j))) : addO (.int i) (.int j) R := h
theorem i_subI {i j : Int} (h : R (.int (i - j))) : int0 (fun i j => i - j) (.int i) (.int j) R := h
theorem i_ltI {i j : Int} {gd : PyData → PyData → Bool} {gi : Int → Int → Bool} (h : R (.bool (gi i j))) : cmpI gi gd (.int i) (.int j) R := h
theorem i_intB {b : Bool} (h : R (.int (if b then 1 else 0))) : int1O (.bool b) R := h
theorem i_isN (h : R (.bool true)) : isNoO false .none .none R := ⟨rfl, h⟩
theorem i_s1 {k : PyData → (PyData → Prop) → Prop} (h : k d R) : sp1 k [.d d] R := h
theorem i_s2 {k : PyData → PyData → (PyData → Prop) → Prop} (h : k d e R) : sp2 k [.d d, .d e] R := h
theorem i_s3 {x : PyData} {k : PyData → PyData → PyData → (PyData → Prop) → Prop} (h : k d e x R) : sp3 k [.d d, .d e, .d x] R := h
theorem i_sF0 {k : (PyData → Prop) → Prop} (h : k R) : spF0 k [.feed] R := h
theorem i_sF1 {k : PyData → (PyData → Prop) → Prop} (h : k d R) : spF1 k [.feed, .d d] R := h
theorem i_tt {A B : Prop} (h : A) : if true = true then A else B := h
theorem i_ff {A B : Prop} (h : B) : if false = true then A else B := h
theorem i_ntt {A B : Prop} (h : B) : if (!true) = true then A else B := h
theorem i_nff {A B : Prop} (h : A) : if (!false) = true then A else B := h
/-- a draw below a written number -/
theorem i_draw {most many : Int} (h1 : 1 ≤ many) (h2 : many ≤ most) (h : ∀ r : Int, 0 ≤ r → r < many → R (.int r)) : specTake most [.feed, .d (.int many)] R := ⟨h1, h2, h⟩
/-- a pick of a written list -/
theorem i_pick {i : Int} (h0 : 0 ≤ i) (h1 : i < ds.length) (h : ∀ x ∈ ds, R x) : ixO (.list ds) (.int i) R := onAtN h0 h1 h
theorem i_szL {A : Prop} (hd : decide (ds.length ≤ 1000) = true) (h : A) : ds.length ≤ sizeLine ∧ A := ⟨few (Nat.le_trans (of_decide_eq_true hd) (by decide)), h⟩
theorem i_eq1 {k : PyData → PyData → Bool} (hd : decide (d.depth ≤ 64) = true) (h : R (.bool (k d e))) : cmpO cMin k d e R := ⟨Nat.le_trans (Nat.min_le_left _ _) (of_decide_eq_true hd), h⟩
theorem i_eq2 {k : PyData → PyData → Bool} (hd : decide (e.depth ≤ 64) = true) (h : R (.bool (k d e))) : cmpO cMin k d e R := ⟨Nat.le_trans (Nat.min_le_right _ _) (of_decide_eq_true hd), h⟩
theorem i_in1 (hd : decide (d.depth ≤ 64) = true) (h : R (.bool (inD d (.tuple ds)))) : inO d (.tuple ds) R := ⟨⟨_, rfl, of_decide_eq_true hd⟩, h⟩
theorem i_in2 (hd : decide (d.depth ≤ 64) = true) (h : R (.bool (inD d (.list ds)))) : inO d (.list ds) R := ⟨⟨_, rfl, of_decide_eq_true hd⟩, h⟩
theorem i_nin1 (hd : decide (d.depth ≤ 64) = true) (h : R (.bool (!inD d (.tuple ds)))) : ninO d (.tuple ds) R := ⟨⟨_, rfl, of_decide_eq_true hd⟩, h⟩
theorem i_nin2 (hd : decide (d.depth ≤ 64) = true) (h : R (.bool (!inD d (.list ds)))) : ninO d (.list ds) R := ⟨⟨_, rfl, of_decide_eq_true hd⟩, h⟩
theorem i_catL {xs ys : List PyData} (hd : decide (xs.length + ys.length ≤ 1000) = true) (h : R (.list (xs ++ ys))) : addO (.list xs) (.list ys) R := ⟨few (Nat.le_trans (of_decide_eq_true hd) (by decide)), h⟩
theorem i_catT {xs ys : List PyData} (hd : decide (xs.length + ys.length ≤ 1000) = true) (h : R (.tuple (xs ++ ys))) : addO (.tuple xs) (.tuple ys) R := ⟨few (Nat.le_trans (of_decide_eq_true hd) (by decide)), h⟩
theorem i_rgc {A : Prop} {j : Int} (h1 : decide (-(2 ^ 62) ≤ j ∧ j < 2 ^ 62) = true) (h : A) : -(2 ^ 62) ≤ j ∧ j < 2 ^ 62 ∧ A := ⟨(of_decide_eq_true h1).1, (of_decide_eq_true h1).2, h⟩
theorem i_rgl {A : Prop} {lo : Int} {n L : Nat} (h1 : decide (n ≤ L) = true) (h : A) : (rngD lo n).length ≤ L ∧ A := ⟨by rw [rngD_len]; exact of_decide_eq_true h1, h⟩
theorem i_sz {n : Nat} {A : Prop} (hn : n ≤ 1000000) (h : A) : n ≤ sizeLine ∧ A := ⟨few hn, h⟩
theorem i_cm0 {A : Prop} (hm : d.depth = 0 ∨ e.depth = 0) (h : A) : cMin d e ∧ A := ⟨by unfold cMin; rcases hm with h | h <;> rw [h] <;> omega, h⟩
end
end DL

/-! Dicts of one's own, whose keys are nested tuples. -/
namespace DL
open PySem PySem.Spec PyProof.Rows L2 GX
mutual
/-- a datum as a key -/
def nk : PyData → Option NestedKey
  | .none => some .none
  | .bool b => some (.num (if b = true then 1 else 0))
  | .int i => some (.num i)
  | .str x => some (.text x)
  | .tuple ds => (nkAll ds).map .tup
  | .list _ => none
  | .dict _ => none
def nkAll : List PyData → Option (List NestedKey)
  | [] => some []
  | d :: r => (nk d).bind fun k => (nkAll r).map (k :: ·)
end
theorem nkAll_cons {d : PyData} {r : List PyData} {ks : List NestedKey} (h : nkAll (d :: r) = some ks) : ∃ k ks', nk d = some k ∧ nkAll r = some ks' ∧ ks = k :: ks' := by
  unfold nkAll at h
  cases e : nk d with
  | none => rw [e] at h; cases h
  | some k =>
    cases e2 : nkAll r with
    | none => rw [e, e2] at h; cases h
    | some ks' => rw [e, e2] at h; cases h; exact ⟨k, ks', rfl, rfl, rfl⟩
section
variable {X : Cx} {pins : List (Addr × Obj)} {σ : L2.St} {H : Hp} {s : Shared}
mutual
theorem nested_of (I : Inv X pins σ H s) : ∀ {d : PyData} {v : V} {u : Value} {k : NestedKey}, Dp X.K H v d → RelV v u → nk d = some k → NestedIs s.heap k u
  | _, _, _, _, .non, r, e => by cases r; cases e; exact .none
  | _, _, _, _, .bl b, r, e => by cases r; cases e; exact .bool rfl
  | _, _, _, _, .int i, r, e => by obtain ⟨t, rfl⟩ := r; cases e; exact .int i t
  | _, _, _, _, .str x, r, e => by obtain ⟨t, rfl⟩ := r; cases e; exact .text x t
  | _, _, _, _, .lst _ _, _, e => by cases e
  | _, _, _, _, .tup (ds := ds) h rs, r, e => by
    cases r
    obtain ⟨its, rv, ⟨o, h1, h2, n, h3⟩, hz⟩ := I.tuple h
    unfold nk at e
    cases z : nkAll ds with
    | none => rw [z] at e; cases e
    | some ks =>
      rw [z] at e
      cases e
      exact .tup h1 h2 h3 (by simpa using nested_all I rs rv z)
theorem nested_all (I : Inv X pins σ H s) : ∀ {ds : List PyData} {vs : List V} {us : List Value} {ks : List NestedKey}, DpAll X.K H vs ds → Vals vs us → nkAll ds = some ks → NestedAll s.heap ks us
  | _, _, _, _, .nil, r, e => by cases r; cases e; exact .nil
  | _, _, _, _, .cons a b, r, e => by
    obtain ⟨k, ks', e1, e2, rfl⟩ := nkAll_cons e
    cases r with
    | cons r1 r2 => exact .cons (nested_of I a r1 e1) (nested_all I b r2 e2)
end
end
abbrev NEnt := NestedKey × Addr × Value
inductive EntsOk (K : PySem.W.Frag) (H : Hp) : List NEnt → List (PyData × PyData) → Prop
  | nil : EntsOk K H [] []
  | cons {k : NestedKey} {a : Addr} {u : Value} {xs : List NEnt} {kd vd : PyData} {kvs : List (PyData × PyData)} {v : V} : nk kd = some k → k.depth ≤ 8 → Dp K H (.ref a) kd → RelV v u → Dp K H v vd → EntsOk K H xs kvs → EntsOk K H ((k, a, u) :: xs) ((kd, vd) :: kvs)
theorem EntsOk.sub {K : PySem.W.Frag} {H H' : Hp} (s : Sub H H') : ∀ {xs : List NEnt} {kvs : List (PyData × PyData)}, EntsOk K H xs kvs → EntsOk K H' xs kvs
  | _, _, .nil => .nil
  | _, _, .cons a b c d e f => .cons a b (s.dp c) d (s.dp e) (EntsOk.sub s f)
theorem EntsOk.len {K : PySem.W.Frag} {H : Hp} : ∀ {xs : List NEnt} {kvs : List (PyData × PyData)}, EntsOk K H xs kvs → xs.length = kvs.length
  | _, _, .nil => rfl
  | _, _, .cons _ _ _ _ _ f => congrArg (· + 1) (EntsOk.len f)
def keq (a b : PyData) : Bool := decide (nk a = nk b)
def dget (kvs : List (PyData × PyData)) (k : PyData) : Option PyData := (kvs.find? fun e => keq e.1 k).map (·.2)
def dput (kvs : List (PyData × PyData)) (k v : PyData) : List (PyData × PyData) := if (dget kvs k).isSome = true then kvs.map fun e => if keq e.1 k = true then (e.1, v) else e else kvs ++ [(k, v)]
section
variable {K : PySem.W.Frag} {H : Hp}
theorem ents_get {k : NestedKey} {kd : PyData} (hk : nk kd = some k) : ∀ {xs : List NEnt} {kvs : List (PyData × PyData)}, EntsOk K H xs kvs → (atKey xs k = none ∧ dget kvs kd = none) ∨ ∃ a u v vd, atKey xs k = some (a, u) ∧ dget kvs kd = some vd ∧ RelV v u ∧ Dp K H v vd
  | _, _, .nil => .inl ⟨rfl, rfl⟩
  | _, _, .cons (k := k') (a := a) (u := u) (kd := kd') (vd := vd') (v := v') (xs := xs) (kvs := kvs) h1 h2 h3 h4 h5 f => by
    by_cases e : k' = k
    · refine .inr ⟨a, u, v', vd', ?_, ?_, h4, h5⟩
      · unfold atKey
        rw [List.find?_cons_of_pos (p := fun x : NEnt => decide (x.1 = k)) (decide_eq_true e)]
        rfl
      · unfold dget
        rw [List.find?_cons_of_pos (p := fun e : PyData × PyData => keq e.1 kd) (by show keq kd' kd = true; unfold keq; rw [h1, hk, e]; exact decide_eq_true rfl)]
        rfl
    · have n1 : ¬ (decide ((k', a, u).1 = k)) = true := fun z => e (of_decide_eq_true z)
      have n2 : ¬ (keq (kd', vd').1 kd) = true := fun z => by
        have z := of_decide_eq_true (show decide (nk kd' = nk kd) = true from z)
        rw [h1, hk] at z
        exact e (Option.some.inj z)
      unfold atKey dget
      rw [List.find?_cons_of_neg (p := fun x : NEnt => decide (x.1 = k)) n1, List.find?_cons_of_neg (p := fun e : PyData × PyData => keq e.1 kd) n2]
      exact ents_get hk f
theorem ents_map {k : NestedKey} {kd vd : PyData} {u : Value} {v : V} (hk : nk kd = some k) (rv : RelV v u) (dv : Dp K H v vd) : ∀ {xs : List NEnt} {kvs : List (PyData × PyData)}, EntsOk K H xs kvs → EntsOk K H (xs.map (putAt k u)) (kvs.map fun e => if keq e.1 kd = true then (e.1, vd) else e)
  | _, _, .nil => .nil
  | _, _, .cons (k := k') (kd := kd') h1 h2 h3 h4 h5 f => by
    rw [List.map_cons, List.map_cons]
    by_cases e : k' = k
    · have e2 : keq kd' kd = true := by unfold keq; rw [h1, hk, e]; exact decide_eq_true rfl
      rw [show putAt k u (k', _, _) = (k', _, u) from if_pos e]
      show EntsOk K H _ ((if keq kd' kd = true then (kd', vd) else _) :: _)
      rw [if_pos e2]
      exact .cons h1 h2 h3 rv dv (ents_map hk rv dv f)
    · have e2 : ¬ keq kd' kd = true := fun z => by
        have z := of_decide_eq_true (show decide (nk kd' = nk kd) = true from z)
        rw [h1, hk] at z
        exact e (Option.some.inj z)
      rw [show putAt k u (k', _, _) = (k', _, _) from if_neg e]
      show EntsOk K H _ ((if keq kd' kd = true then (kd', vd) else _) :: _)
      rw [if_neg e2]
      exact .cons h1 h2 h3 h4 h5 (ents_map hk rv dv f)
theorem ents_snoc {k : NestedKey} {kd vd : PyData} {a : Addr} {u : Value} {v : V} (hk : nk kd = some k) (hd : k.depth ≤ 8) (da : Dp K H (.ref a) kd) (rv : RelV v u) (dv : Dp K H v vd) : ∀ {xs : List NEnt} {kvs : List (PyData × PyData)}, EntsOk K H xs kvs → EntsOk K H (xs ++ [(k, a, u)]) (kvs ++ [(kd, vd)])
  | _, _, .nil => .cons hk hd da rv dv .nil
  | _, _, .cons h1 h2 h3 h4 h5 f => .cons h1 h2 h3 h4 h5 (ents_snoc hk hd da rv dv f)
theorem ents_put {k : NestedKey} {kd vd : PyData} {a : Addr} {u : Value} {v : V} (hk : nk kd = some k) (hd : k.depth ≤ 8) (da : Dp K H (.ref a) kd) (rv : RelV v u) (dv : Dp K H v vd) {xs : List NEnt} {kvs : List (PyData × PyData)} (h : EntsOk K H xs kvs) : EntsOk K H (storedH xs k a u) (dput kvs kd vd) := by
  unfold storedH dput
  rcases ents_get hk h with ⟨e1, e2⟩ | ⟨_, _, _, _, e1, e2, _⟩
  · rw [e1, e2]
    exact ents_snoc hk hd da rv dv h
  · rw [e1, e2]
    exact ents_map hk rv dv h
end
/-- at a stands a dict with these keys and values -/
def DctN (P : Program) (w : World) (K : PySem.W.Frag) (kvs : List (PyData × PyData)) (a : Addr) (o : Option HO) (H : Hp) : Prop :=
  ∃ (xs : List NEnt) (ob : Obj) (es : Array DictEntry) (ep : Nat), o = some (.ext fun h => h.get? a = some ob) ∧ (a == sysModules) = false ∧ ob.ExactDict ∧ ob.data = .dict es ep ∧ es.toList = xs.map (entryOfKey (nestedKind P w)) ∧ (xs.map (·.1)).Nodup ∧ EntsOk K H xs kvs
theorem dctN_st {P : Program} {w : World} {K : PySem.W.Frag} {kvs : List (PyData × PyData)} : ∀ a o H H', Sub H H' → DctN P w K kvs a o H → DctN P w K kvs a o H' := fun a o H H' s ⟨xs, ob, es, ep, h1, h2, h3, h4, h5, h6, h7⟩ => ⟨xs, ob, es, ep, h1, h2, h3, h4, h5, h6, h7.sub s⟩
theorem dctN_nl {P : Program} {w : World} {K : PySem.W.Frag} {kvs : List (PyData × PyData)} : ∀ a vs H, ¬ DctN P w K kvs a (some (.lst vs)) H := fun a vs H ⟨_, _, _, _, h1, _⟩ => by cases h1
def dctO (P : Program) (w : World) (K : PySem.W.Frag) (kvs : List (PyData × PyData)) : SV := .oo (DctN P w K kvs) dctN_st dctN_nl
/-- what may be a key -/
def KeyOk (d : PyData) : Prop := ∃ ds k, d = .tuple ds ∧ nk d = some k ∧ k.depth ≤ 8
section
variable {X : Cx} {pins : List (Addr × Obj)} {σ : L2.St} {H : Hp} {s : Shared} {a : Addr} {kvs : List (PyData × PyData)}
theorem ents_is (I : Inv X pins σ H s) : ∀ {xs : List NEnt} {kvs : List (PyData × PyData)}, EntsOk X.K H xs kvs → ∀ x ∈ xs, (nestedKind X.prog X.w).is s.heap x.1 x.2.1
  | _, _, .nil, x, m => by cases m
  | _, _, .cons h1 h2 h3 _ _ f, x, m => by
    rcases List.mem_cons.mp m with rfl | m
    · exact ⟨nested_of I h3 rfl h1, h2⟩
    · exact ents_is I f x m
theorem DctN.dict (I : Inv X pins σ H s) (h : DctN X.prog X.w X.K kvs a (H a) H) : ∃ xs, s.heap.DictOfH (nestedKind X.prog X.w) a xs ∧ EntsOk X.K H xs kvs ∧ (a == sysModules) = false ∧ Mut (H a) := by
  obtain ⟨xs, ob, es, ep, h1, h2, h3, h4, h5, h6, h7⟩ := h
  have ho : s.heap.get? a = some ob := (show ObjOk X.prog X.w H s.heap a (.ext _) from I.hok a _ h1).1
  exact ⟨xs, ⟨ob, es, ep, ho, h3, h4, h5, ents_is I h7, h6⟩, h7, h2, by rw [h1]; exact True.intro⟩
/-- keys and values of a dict are what its entries tell -/
theorem ents_inj {P : Program} {w : World} {h : Heap} : ∀ {xs ys : List NEnt}, (∀ x ∈ xs, (nestedKind P w).is h x.1 x.2.1) → (∀ x ∈ ys, (nestedKind P w).is h x.1 x.2.1) → xs.map (entryOfKey (nestedKind P w)) = ys.map (entryOfKey (nestedKind P w)) → xs = ys
  | [], [], _, _, _ => rfl
  | [], _ :: _, _, _, e => by cases e
  | _ :: _, [], _, _, e => by cases e
  | (k, a, u) :: xs, (k', a', u') :: ys, h1, h2, e => by
    rw [List.map_cons, List.map_cons] at e
    injection e with e1 e2
    have e3 : (⟨(nestedKind P w).hash k, .ref a, u⟩ : DictEntry) = ⟨(nestedKind P w).hash k', .ref a', u'⟩ := e1
    injection e3 with _ e4 e5
    injection e4 with e4
    subst e4 e5
    have ek : k = k' := NestedIs.inj k k' (.ref a) (h1 (k, a, u) (List.mem_cons_self ..)).1 (h2 (k', a, u) (List.mem_cons_self ..)).1
    rw [ek, ents_inj (fun x m => h1 x (List.mem_cons_of_mem _ m)) (fun x m => h2 x (List.mem_cons_of_mem _ m)) e2]
/-- a dict in the machine's heap, told -/
theorem dict_lay {P : Program} {w : World} {K : PySem.W.Frag} {H' : Hp} {h' : Heap} {xs : List NEnt} (d : h'.DictOfH (nestedKind P w) a xs) (hs : (a == sysModules) = false) (e : EntsOk K H' xs kvs) : ∃ ob, h'.get? a = some ob ∧ DctN P w K kvs a (some (.ext fun h => h.get? a = some ob)) H' := by
  obtain ⟨ob, es, ep, h1, h2, h3, h4, h5, h6⟩ := d
  exact ⟨ob, h1, xs, ob, es, ep, rfl, hs, h2, h3, h4, h6, e⟩
theorem ext_ok {P : Program} {w : World} {H' : Hp} {h' : Heap} {ob : Obj} (h : h'.get? a = some ob) : ObjOk P w H' h' a (.ext fun h => h.get? a = some ob) := ⟨h, ⟨_, h⟩, fun _ _ x k => k _ x⟩
end
section
variable {X : Cx} {pos : Pos}
/-- {} -/
theorem pe_dnewN : PE X (.Dict [] [] pos) (fun _ H Q => ∀ p o, H p = none → (∀ ps, o ≠ HO.tbl ps) → (∀ H', DctN X.prog X.w X.K [] p (some o) H') → Tk (some o) → Q (.ref p) (upd H p o)) := ⟨fun pins s σ H Q I h => by
  have hm : (s.heap.objs.size == sysModules) = false := beq_eq_false_iff_ne.mpr (Nat.ne_of_gt I.big)
  have d := Heap.DictOfH.new (knd := nestedKind X.prog X.w) s.heap
  obtain ⟨ob, es, ep, h1, h2, h3, h4, h5, h6⟩ := d
  exact wpAny_Dict_empty ⟨.ref s.heap.objs.size, _, I.laid (a := s.heap.objs.size) (o := .ext fun h => h.get? s.heap.objs.size = some ob) (t' := s.toks) (fun _ _ q => Heap.get?_push_of_some _ q) (Nat.le_refl _) (ext_ok h1), rfl,
    h _ _ (I.hok.fresh (Nat.le_refl _)) (fun _ z => by cases z) (fun H' => ⟨[], ob, es, ep, rfl, hm, h2, h3, h4, h6, .nil⟩) (.inr (.inl ⟨_, rfl⟩))⟩⟩
/-- d[k] = v -/
def rSetN (P : Program) (w : World) (K : PySem.W.Frag) : TSet := fun o i v H Q => ∃ (Hh : Hp) (a b : Addr) (kvs : List (PyData × PyData)) (kd vd : PyData), o = .ref a ∧ i = .ref b ∧ Sub Hh H ∧ DctN P w K kvs a (H a) Hh ∧ Dp K Hh (.ref b) kd ∧ KeyOk kd ∧ Dp K Hh v vd ∧ kvs.length < sizeLine ∧
  ∀ o', (∀ ps, o' ≠ HO.tbl ps) → Tk (some o') → DctN P w K (dput kvs kd vd) a (some o') Hh → Q (upd H a o')
theorem room8 {k : Nat} {A : Around} (hr : Room k A) : A.units + 10 < cLine := by have := hr.un; omega
theorem set_dictN {k : Nat} (hr : Room k X.A) : PSet X (rSetN X.prog X.w X.K) := by
  intro pins s σ H o i v ov iv u Q I ro ri rv h
  obtain ⟨Hh, a, b, kvs, kd, vd, rfl, rfl, sb, dn, db, ⟨ds, kk, rfl, hk, hd⟩, dv, hl, q⟩ := h
  cases ro
  cases ri
  obtain ⟨xs, dd, ee, hs, mu⟩ := DctN.dict I (dctN_st _ _ _ _ sb dn)
  obtain ⟨xs', ob', es', ep', h1', h2', h3', h4', h5', h6', ee'⟩ := dn
  have hx : xs = xs' := by
    obtain ⟨ob, es, ep, g1, g2, g3, g4, g5, g6⟩ := dd
    have ho : s.heap.get? a = some ob' := (show ObjOk X.prog X.w H s.heap a (.ext _) from I.hok a _ h1').1
    rw [ho] at g1
    cases g1
    rw [h4'] at g3
    cases g3
    rw [h5'] at g4
    exact ents_inj (ents_is I ee) (ents_is I (ee'.sub sb)) g4.symm
  subst hx
  have r8 := room8 hr
  refine wpAny_setItem_heap (knd := nestedKind X.prog X.w) (k := kk) (show X.A.units + 1 + 8 < cLine by omega) ⟨nested_of I (sb.dp db) rfl hk, hd⟩ dd (fun h' hm' hs' => ?_) (by rw [ee.len]; omega)
  obtain ⟨ob, g1, g2⟩ := dict_lay (kvs := dput kvs (.tuple ds) vd) hm' hs (ents_put hk hd db rv dv ee')
  exact ⟨_, d_write I mu hs' ⟨_, g1⟩ (ext_ok g1), q _ (fun _ z => by cases z) (.inr (.inl ⟨_, rfl⟩)) g2⟩
end
end DL

/-! Readings over dicts of one's own. -/
namespace DL
open PySem PySem.Spec PyProof.Rows L2 GX
section
variable {X : Cx} {C : Cc} {e c : Expr} {f : DE} {pos p pos' : Pos}
/-- the heap gets a new object that is ours -/
theorem sub_holdO {H : Hp} {F : List Addr} {p : Addr} {o : HO} (n : H p = none) : Sub (hide H F) (hide (upd H p o) (p :: F)) := fun b o' q _ => by
  obtain ⟨q, nq⟩ := hide_some q
  have nb : b ≠ p := fun z => by rw [z, n] at q; cases q
  rw [hide_out (by simp only [List.mem_cons, not_or]; exact ⟨nb, nq⟩), upd_ne nb]
  exact q
theorem sub_putO {H : Hp} {F : List Addr} {p : Addr} {o : HO} (m : p ∈ F) : Sub (hide H F) (hide (upd H p o) F) := fun b o' q _ => by
  obtain ⟨q, nq⟩ := hide_some q
  have nb : b ≠ p := fun z => by rw [z] at nq; exact nq m
  rw [hide_out nq, upd_ne nb]
  exact q
/-- slot i gets a new object of its own -/
theorem rel_newO {F : List Addr} {σ : L2.St} {H : Hp} {ρ : DEnv} {p : Addr} {o : HO} {κ : Nat} {φ : Addr → Option HO → Hp → Prop} {st : ∀ a o H H', Sub H H' → φ a o H → φ a o H'} {nl : ∀ a vs H, ¬ φ a (some (.lst vs)) H} (i : Nat) (rel : Rel C κ F σ H ρ) (n : H p = none) (nt : ∀ ps, o ≠ .tbl ps) (tk : Tk (some o)) (ph : φ p (some o) (hide (upd H p o) (p :: F))) :
    Rel C κ (p :: F) (σ.set i (some (.ref p))) (upd H p o) (ρ.set i (some (.oo φ st nl))) := by
  have pF : p ∉ F := new_out rel.hk n
  have gp : C.b.g ≠ some p := g_ne rel.hk n
  have key : Sub (hide H F) (hide (upd H p o) (p :: F)) := sub_holdO n
  have keep : ∀ b u, H b = some u → (upd H p o) b = some u := fun b u e => by rw [upd_ne (ne_of_none e n)]; exact e
  have notp : ∀ (j : Nat) (t : SV) (v : V), t.owned = true → ρ[j]? = some (some t) → σ[j]? = some (some v) → v ≠ .ref p := fun j t v ot x y z => by
    obtain ⟨w, hw, ok⟩ := rel.slot j _ x
    rw [hw] at y
    cases y
    cases t with
    | own ys =>
      obtain ⟨a, ws, x1, _, _, _, x5, _⟩ := ok
      rw [x1] at z
      cases z
      rw [n] at x5
      cases x5
    | oo φ st nl =>
      obtain ⟨a, x1, x2, _⟩ := ok
      rw [x1] at z
      cases z
      exact (rel.hk.trk _ x2).no n
    | _ => cases ot
  refine ⟨⟨fun T hT => ?_, fun g hg => ?_, fun a m => ?_⟩, fun b o' x m g => keep _ _ (rel.ent b o' x m g), fun a m => List.mem_cons_of_mem _ (rel.low a m), fun a m => ?_, fun j s x => ?_, by rw [List.length_set, List.length_set]; exact rel.len, fun q hq => key.dp (rel.held q hq), fun j k s t v o1 o2 h1 h2 h3 h4 => ?_, by rw [pos_upd gp]; exact rel.bud⟩
  · obtain ⟨ps, q, r⟩ := rel.hk.tab T hT
    exact ⟨ps, keep _ _ q, r⟩
  · obtain ⟨m, cs, x1, x2, x3, x4⟩ := rel.hk.fd g hg
    exact ⟨List.mem_cons_of_mem _ m, cs, keep _ _ x1, x2, x3, key.sql x4⟩
  · rcases List.mem_cons.mp m with rfl | m
    · rw [upd_same]
      exact tk
    · exact (rel.hk.trk a m).keep fun o' e _ => keep _ _ e
  · rcases List.mem_cons.mp m with rfl | m
    · exact .inr (rel.fresh n)
    · exact rel.new a m
  · by_cases hj : j = i
    · subst hj
      have l : j < ρ.length := by
        have := (List.getElem?_eq_some_iff.mp x).1
        rwa [List.length_set] at this
      rw [List.getElem?_set_self l] at x
      cases x
      exact ⟨.ref p, List.getElem?_set_self (by rw [← rel.len]; exact l), p, rfl, List.mem_cons_self .., fun m => pF (rel.low p m), gp, by rw [upd_same]; exact ph⟩
    · rw [List.getElem?_set_ne (Ne.symm hj)] at x
      obtain ⟨v, y, z⟩ := rel.slot j s x
      refine ⟨v, by rw [List.getElem?_set_ne (Ne.symm hj)]; exact y, ?_⟩
      cases s with
      | d w => exact key.dp z
      | own ys =>
        obtain ⟨a, ws, x1, x2, x3, x4, x5, x6⟩ := z
        exact ⟨a, ws, x1, List.mem_cons_of_mem _ x2, x3, x4, keep _ _ x5, key.dps x6⟩
      | feed => exact z
      | fn f => exact z
      | ob φ st => exact st _ _ _ key z
      | oo φ' st' nl' =>
        obtain ⟨a, x1, x2, x3, x4, x5⟩ := z
        have ne : a ≠ p := fun e => pF (e ▸ x2)
        exact ⟨a, x1, List.mem_cons_of_mem _ x2, x3, x4, by rw [upd_ne ne]; exact st' _ _ _ _ key x5⟩
  · have self : ∀ (m : Nat) (z : SV) (w : V), z.owned = true → m ≠ i → (ρ.set i (some (.oo φ st nl)))[m]? = some (some z) → (σ.set i (some (.ref p)))[m]? = some (some w) → w ≠ .ref p := fun m z w oz hm x y => by
      rw [List.getElem?_set_ne (Ne.symm hm)] at x y
      exact notp m z w oz x y
    have here : ∀ w, (σ.set i (some (.ref p)))[i]? = some (some w) → w = .ref p := fun w y => by
      have l : i < σ.length := by
        have := (List.getElem?_eq_some_iff.mp y).1
        rwa [List.length_set] at this
      rw [List.getElem?_set_self l] at y
      cases y
      rfl
    by_cases hj : j = i
    · by_cases hk : k = i
      · rw [hj, hk]
      · subst hj
        exact absurd (here v h3) (self k t v o2 hk h2 h4)
    · by_cases hk : k = i
      · subst hk
        exact absurd (here v h4) (self j s v o1 hj h1 h3)
      · rw [List.getElem?_set_ne (Ne.symm hj)] at h1 h3
        rw [List.getElem?_set_ne (Ne.symm hk)] at h2 h4
        exact rel.apart j k s t v o1 o2 h1 h2 h3 h4
/-- the own object of slot i is another one now -/
theorem rel_updO {F : List Addr} {σ : L2.St} {H : Hp} {ρ : DEnv} {κ i : Nat} {φ : Addr → Option HO → Hp → Prop} {st : ∀ a o H H', Sub H H' → φ a o H → φ a o H'} {nl : ∀ a vs H, ¬ φ a (some (.lst vs)) H} (rel : Rel C κ F σ H ρ) (h : ρ[i]? = some (some (.oo φ st nl))) :
    ∃ a, σ[i]? = some (some (.ref a)) ∧ a ∈ F ∧ φ a (H a) (hide H F) ∧ ∀ (o : HO) (φ' : Addr → Option HO → Hp → Prop) (st' : ∀ a o H H', Sub H H' → φ' a o H → φ' a o H') (nl' : ∀ a vs H, ¬ φ' a (some (.lst vs)) H), (∀ ps, o ≠ .tbl ps) → Tk (some o) → φ' a (some o) (hide (upd H a o) F) → Rel C κ F σ (upd H a o) (ρ.set i (some (.oo φ' st' nl'))) := by
  obtain ⟨v, y, p, rfl, x2, x3, x4, x5⟩ := rel.slot i _ h
  have n0 : C.H0 p = none := (rel.new p x2).resolve_left x3
  have li : i < ρ.length := (List.getElem?_eq_some_iff.mp h).1
  refine ⟨p, y, x2, x5, fun o φ' st' nl' nt tk ph => ?_⟩
  obtain ⟨l, hp, nt0⟩ := (rel.hk.trk p x2).some
  have keep : ∀ b u, H b = some u → b ≠ p → (upd H p o) b = some u := fun b u e n => by rw [upd_ne n]; exact e
  have key : Sub (hide H F) (hide (upd H p o) F) := sub_putO x2
  refine ⟨⟨fun T hT => ?_, fun g hg => ?_, fun a m => ?_⟩, fun b o' x mm gg => ?_, rel.low, rel.new, fun j s x => ?_, by rw [List.length_set]; exact rel.len, fun q hq => key.dp (rel.held q hq), fun j k s t v o1 o2 h1 h2 h3 h4 => ?_, by rw [pos_upd x4]; exact rel.bud⟩
  · obtain ⟨ps, q, r⟩ := rel.hk.tab T hT
    exact ⟨ps, keep _ _ q (fun z => by rw [z, hp] at q; exact nt0 _ (Option.some.inj q)), r⟩
  · obtain ⟨m, cs, z1, z2, z3, z4⟩ := rel.hk.fd g hg
    exact ⟨m, cs, keep _ _ z1 (fun z => x4 (z ▸ hg)), z2, z3, key.sql z4⟩
  · by_cases z : a = p
    · subst z
      rw [upd_same]
      exact tk
    · exact (rel.hk.trk a m).keep fun o' e _ => keep _ _ e z
  · rw [upd_ne fun z => by rw [z, n0] at x; cases x]
    exact rel.ent b o' x mm gg
  · by_cases hj : j = i
    · subst hj
      rw [List.getElem?_set_self li] at x
      cases x
      exact ⟨.ref p, y, p, rfl, x2, x3, x4, by rw [upd_same]; exact ph⟩
    · rw [List.getElem?_set_ne (Ne.symm hj)] at x
      obtain ⟨v, y', z⟩ := rel.slot j s x
      refine ⟨v, y', ?_⟩
      cases s with
      | d w => exact key.dp z
      | own ys =>
        obtain ⟨a, us, z1, z2, z3, z4, z5, z6⟩ := z
        have ne : a ≠ p := fun e => hj (rel.apart j i (.own ys) (.oo φ st nl) v rfl rfl x h y' (by rw [y, z1, e]))
        exact ⟨a, us, z1, z2, z3, z4, by rw [upd_ne ne]; exact z5, key.dps z6⟩
      | feed => exact z
      | fn f => exact z
      | ob φ st => exact st _ _ _ key z
      | oo φ2 st2 nl2 =>
        obtain ⟨a, z1, z2, z3, z4, z5⟩ := z
        have ne : a ≠ p := fun e => hj (rel.apart j i (.oo φ2 st2 nl2) (.oo φ st nl) v rfl rfl x h y' (by rw [y, z1, e]))
        exact ⟨a, z1, z2, z3, z4, by rw [upd_ne ne]; exact st2 _ _ _ _ key z5⟩
  · have back : ∀ (m : Nat) (z : SV), z.owned = true → (ρ.set i (some (SV.oo φ' st' nl')))[m]? = some (some z) → ∃ z' : SV, z'.owned = true ∧ ρ[m]? = some (some z') := fun m z oz x => by
      by_cases hm : m = i
      · subst hm
        exact ⟨_, rfl, h⟩
      · rw [List.getElem?_set_ne (Ne.symm hm)] at x
        exact ⟨z, oz, x⟩
    obtain ⟨s', o1, h1⟩ := back j s o1 h1
    obtain ⟨t', o2, h2⟩ := back k t o2 h2
    exact rel.apart j k s' t' v o1 o2 h1 h2 h3 h4
/-- d = {} -/
def newD (P : Program) (w : World) (K : PySem.W.Frag) (i : Nat) : DS := fun N ρ => N.nx (ρ.set i (some (dctO P w K [])))
theorem s_newD {i : Nat} {tg : Expr} (hg : PG X tg (gName i)) (hK : C.b.K = X.K := by rfl) (hs : swapsWithSole [tg] (.Dict [] [] pos) pos'.line X.env = pure false := by rfl) (hw : swappedStores [tg] (.Dict [] [] pos) X.env = pure none := by rfl) (h1 : (assignEach [tg] X.env).map (·.2) = [assign tg X.env] := by rfl) :
    PDS X C 0 (.Assign [tg] (.Dict [] [] pos) pos') (newD X.prog X.w X.K i) :=
  ps_mono (ps_asg pe_dnewN hg hs hw h1) fun D σ H ⟨k, F, ρ, N, rel, ht, g⟩ => fun p o n nt dn tk => g.nx _ ht _ _ _ (rel_newO i (rel.le (Nat.le_add_left _ _)) n nt tk (dn _))
/-- d[k] = v -/
def setD (P : Program) (w : World) (K : PySem.W.Frag) (i : Nat) (fk fv : DE) : DS := fun N ρ => ∃ kvs, ρ[i]? = some (some (dctO P w K kvs)) ∧ fv ρ fun v => fk ρ fun k => KeyOk k ∧ kvs.length < sizeLine ∧ N.nx (ρ.set i (some (dctO P w K (dput kvs k v))))
theorem s_setD {i j : Nat} {o ke ve : Expr} {fk fv : DE} (hr : Room j X.A) (ho : PE X o (tVar i)) (hk : PD X C κ2 ke fk) (hv : PD X C κ1 ve fv) (hK : C.b.K = X.K := by rfl)
    (ha : ∀ v, assign (.Subscript o ke pos) X.env v = (do
      let ov ← holding [v] (eval o X.env)
      let iv ← holding [v, ov] (eval ke X.env)
      standAt pos
      holding [v, ov, iv] (setItem ov iv v)
      release [v, ov, iv] []) := by intro _; rfl)
    (hs : swapsWithSole [.Subscript o ke pos] ve pos'.line X.env = pure false := by rfl) (hw : swappedStores [.Subscript o ke pos] ve X.env = pure none := by rfl) (h1 : (assignEach [.Subscript o ke pos] X.env).map (·.2) = [assign (.Subscript o ke pos) X.env] := by rfl) :
    PDS X C (κ1 + κ2) (.Assign [.Subscript o ke pos] ve pos') (setD X.prog X.w X.K i fk fv) :=
  ps_mono (ps_asg hv (pg_sub ho hk (set_dictN hr) ha) hs hw h1) fun D σ H ⟨kk, F, ρ, N, rel, ⟨kvs, hi, ht⟩, g⟩ => by
    refine ⟨F, ρ, _, rel.le (by omega), ht, fun vd hvd v H1 e1 dv => ?_⟩
    have rel1 : Rel C (κ2 + kk) F σ H1 ρ := (rel.le (show κ1 + (κ2 + kk) ≤ κ1 + κ2 + kk by omega)).ev e1
    obtain ⟨a, y, mF, ph, up⟩ := rel_updO rel1 hi
    refine ⟨.ref a, y, F, ρ, _, rel1.lel, hvd, fun kd ⟨ko, hl, hn⟩ b H2 e2 db => ?_⟩
    have rel2 := rel1.ev e2
    obtain ⟨a', y', mF', ph', up'⟩ := rel_updO rel2 hi
    rw [y] at y'
    cases y'
    obtain ⟨ds, k0, ek, hk0⟩ := id ko
    subst ek
    cases db with
    | tup q1 q2 =>
      refine ⟨hide H2 F, a, _, kvs, .tuple ds, vd, rfl, rfl, sub_hide, ph', hK ▸ (.tup q1 q2), ko, hK ▸ e2.dp e1.hk dv, hl, fun o' nt tk dn => g.nx _ hn _ _ _ (up' o' _ _ _ nt tk (dctN_st _ _ _ _ (sub_putO mF') dn))⟩
/-- d[k] -/
def ixN' (P : Program) (w : World) (K : PySem.W.Frag) (i : Nat) (fk : DE) : DE := fun ρ R => ∃ kvs, ρ[i]? = some (some (dctO P w K kvs)) ∧ fk ρ fun k => KeyOk k ∧ onO (dget kvs k) R
theorem DctN.dict2 {pins : List (Addr × Obj)} {σ : L2.St} {H Hh : Hp} {s : Shared} {a : Addr} {kvs : List (PyData × PyData)} (I : Inv X pins σ H s) (sb : Sub Hh H) (h : DctN X.prog X.w X.K kvs a (H a) Hh) : ∃ xs, s.heap.DictOfH (nestedKind X.prog X.w) a xs ∧ EntsOk X.K Hh xs kvs ∧ (a == sysModules) = false ∧ ∃ ob es ep, s.heap.get? a = some ob ∧ ob.ExactDict ∧ ob.data = .dict es ep ∧ es.toList = xs.map (entryOfKey (nestedKind X.prog X.w)) := by
  obtain ⟨xs, ob, es, ep, h1, h2, h3, h4, h5, h6, h7⟩ := h
  have ho : s.heap.get? a = some ob := (show ObjOk X.prog X.w H s.heap a (.ext _) from I.hok a _ h1).1
  exact ⟨xs, ⟨ob, es, ep, ho, h3, h4, h5, ents_is I (h7.sub sb), h6⟩, h7, h2, ob, es, ep, ho, h3, h4, h5⟩
def rIxN (P : Program) (w : World) (K : PySem.W.Frag) : R2 := fun x y H Q => ∃ (Hh : Hp) (a b : Addr) (kvs : List (PyData × PyData)) (kd vd : PyData), x = .ref a ∧ y = .ref b ∧ Sub Hh H ∧ DctN P w K kvs a (H a) Hh ∧ Dp K Hh (.ref b) kd ∧ KeyOk kd ∧ dget kvs kd = some vd ∧ ∀ v, Dp K Hh v vd → Q v H
theorem ix_dictN {j : Nat} (hr : Room j X.A) : IxR X (rIxN X.prog X.w X.K) := by
  intro value slice pins s σ H x y v u Q I rx ry h hs
  obtain ⟨Hh, a, b, kvs, kd, vd, rfl, rfl, sb, dn, db, ⟨ds, kk, rfl, hk, hd⟩, hg, q⟩ := h
  cases rx
  cases ry
  obtain ⟨xs, hm, ee, lo, _⟩ := DctN.dict2 I sb dn
  have hT : s.TypeIs (.ref a) "dict" := hm.typeIs
  rcases ents_get hk ee with ⟨_, e2⟩ | ⟨a', u', v', vd', e1, e2, rv, dv⟩
  · rw [e2] at hg
    cases hg
  rw [e2] at hg
  cases hg
  have r8 := room8 hr
  unfold subscriptTail
  refine wpAny_bind ?_
  rw [getitemInPython_of_ne hT.not_modules]
  refine wpAny_bind (wpAny_specialOf hT PySem.slot_dict_getitem.lookup ?_)
  have fin : wpAny (model X.prog X.w) X.A (subscripted slice false (.ref a) (.ref b)) (fun r s₃ => wpAny (model X.prog X.w) X.A (letTemporaryGo value (.ref a) r >>= fun _ => pure r) (EP X pins σ Q) X.xe s₃) X.xe s := by
    rw [hs]
    refine wpAny_operating (wpAny_getItem_heap (knd := nestedKind X.prog X.w) (k := kk) (show X.A.units + 1 + 8 < cLine by omega) ⟨nested_of I (sb.dp db) rfl hk, hd⟩ hm e1 (wpAny_bind (wpAny_letTemporaryGo (wpAny_pure ?_))))
    exact ⟨v', H, I.kept fun _ _ z => z, rv, q v' dv⟩
  first
    | exact wpAny_pure (wpAny_bind fin)
    | exact wpAny_bind (wpAny_pure (wpAny_bind fin))
    | exact wpAny_bind fin
theorem d_ixN {i j : Nat} {a b : Expr} (hr : Room j X.A) (ha : PE X a (tVar i)) (hb : PD X C κ b f) (hs : PlainIx b) (hK : C.b.K = X.K := by rfl) : PD X C κ (.Subscript a b pos) (ixN' X.prog X.w X.K i f) :=
  pe_mono (pe_ix (ix_dictN hr) ha hb hs) fun σ H Q ⟨F, ρ, R, rel, ⟨kvs, hi, hf⟩, q⟩ => by
    obtain ⟨a, y, mF, ph, up⟩ := rel_updO rel hi
    refine ⟨.ref a, y, F, ρ, _, rel, hf, fun kd ⟨ko, hd⟩ v H1 e1 dy => ?_⟩
    obtain ⟨vd, hv, hR⟩ := onO_ok hd
    obtain ⟨a', y', mF', ph', _⟩ := rel_updO (Rel.ev (κ' := 0) rel e1) hi
    rw [y] at y'
    cases y'
    obtain ⟨ds, k0, ek, hk0⟩ := id ko
    subst ek
    cases dy with
    | tup q1 q2 => exact ⟨hide H1 F, a, _, kvs, .tuple ds, vd, rfl, rfl, sub_hide, ph', hK ▸ (.tup q1 q2), ko, hv, fun v dv => q _ hR _ H1 e1 (hK ▸ dv)⟩
/-- k in d, k not in d -/
def rInN (P : Program) (w : World) (K : PySem.W.Frag) (g : Bool → Bool) : R2 := fun x y H Q => ∃ (Hh : Hp) (a b : Addr) (kvs : List (PyData × PyData)) (kd : PyData), y = .ref a ∧ x = .ref b ∧ Sub Hh H ∧ DctN P w K kvs a (H a) Hh ∧ Dp K Hh (.ref b) kd ∧ KeyOk kd ∧ Q (.bl (g (dget kvs kd).isSome)) H
theorem ents_some {K : PySem.W.Frag} {H : Hp} {k : NestedKey} {kd : PyData} (hk : nk kd = some k) {xs : List NEnt} {kvs : List (PyData × PyData)} (h : EntsOk K H xs kvs) : (atKey xs k).isSome = (dget kvs kd).isSome := by
  rcases ents_get hk h with ⟨e1, e2⟩ | ⟨_, _, _, _, e1, e2, _⟩ <;> rw [e1, e2] <;> rfl
theorem op_inN {j : Nat} (hr : Room j X.A) : OpR X (compareOp .In) (rInN X.prog X.w X.K id) := by
  intro pins s σ H x y v u Q I rx ry h
  obtain ⟨Hh, a, b, kvs, kd, rfl, rfl, sb, dn, db, ⟨ds, kk, rfl, hk, hd⟩, q⟩ := h
  cases rx
  cases ry
  obtain ⟨xs, hm, ee, lo, _⟩ := DctN.dict2 I sb dn
  have r8 := room8 hr
  refine wpAny_in_heap (knd := nestedKind X.prog X.w) (k := kk) (show X.A.units + 1 + 8 < cLine by omega) ⟨nested_of I (sb.dp db) rfl hk, hd⟩ lo hm ⟨.bl _, H, I.kept fun _ _ z => z, rfl, ?_⟩
  rw [ents_some hk ee]
  exact q
theorem op_ninN {j : Nat} (hr : Room j X.A) : OpR X (compareOp .NotIn) (rInN X.prog X.w X.K (!·)) := by
  intro pins s σ H x y v u Q I rx ry h
  obtain ⟨Hh, a, b, kvs, kd, rfl, rfl, sb, dn, db, ⟨ds, kk, rfl, hk, hd⟩, q⟩ := h
  cases rx
  cases ry
  obtain ⟨xs, hm, ee, lo, _⟩ := DctN.dict2 I sb dn
  have r8 := room8 hr
  refine wpAny_notIn_heap (knd := nestedKind X.prog X.w) (k := kk) (show X.A.units + 1 + 8 < cLine by omega) ⟨nested_of I (sb.dp db) rfl hk, hd⟩ lo hm ⟨.bl _, H, I.kept fun _ _ z => z, rfl, ?_⟩
  rw [ents_some hk ee]
  exact q
def inN (P : Program) (w : World) (K : PySem.W.Frag) (g : Bool → Bool) (i : Nat) (fk : DE) : DE := fun ρ R => ∃ kvs, ρ[i]? = some (some (dctO P w K kvs)) ∧ fk ρ fun k => KeyOk k ∧ R (.bool (g (dget kvs k).isSome))
theorem inN_ok {g : Bool → Bool} {i κ : Nat} (hK : C.b.K = X.K) {σ : L2.St} {H : Hp} {Q : VK} (h : tD C κ (inN X.prog X.w X.K g i f) σ H Q) : tOp (rInN X.prog X.w X.K g) (tD C κ f) (tVar i) σ H Q := by
  obtain ⟨F, ρ, R, rel, ⟨kvs, hi, hf⟩, q⟩ := h
  refine ⟨F, ρ, _, rel, hf, fun kd ⟨ko, hR⟩ v H1 e1 dy => ?_⟩
  obtain ⟨a', y', mF', ph', _⟩ := rel_updO (Rel.ev (κ' := 0) rel e1) hi
  obtain ⟨ds, k0, ek, hk0⟩ := id ko
  subst ek
  cases dy with
  | tup q1 q2 => exact ⟨.ref a', y', hide H1 F, a', _, kvs, .tuple ds, rfl, rfl, sub_hide, ph', hK ▸ (.tup q1 q2), ko, q _ hR _ H1 e1 (.bl _)⟩
theorem t_inN {i j : Nat} {a b : Expr} (hr : Room j X.A) (ha : PD X C κ a f) (hb : PE X b (tVar i)) (hm : behindInMarks .In b = false := by first | rfl | with_unfolding_all rfl) (hK : C.b.K = X.K := by rfl) : PDT X C κ (.Compare a [.In] [b] pos) (tr (inN X.prog X.w X.K id i f)) := pt_mono (pt_cmpR (op_inN hr) ha hb hm) (tr_of fun σ H Q h => inN_ok hK h)
theorem t_ninN {i j : Nat} {a b : Expr} (hr : Room j X.A) (ha : PD X C κ a f) (hb : PE X b (tVar i)) (hm : behindInMarks .NotIn b = false := by first | rfl | with_unfolding_all rfl) (hK : C.b.K = X.K := by rfl) : PDT X C κ (.Compare a [.NotIn] [b] pos) (tr (inN X.prog X.w X.K (!·) i f)) := pt_mono (pt_cmpR (op_ninN hr) ha hb hm) (tr_of fun σ H Q h => inN_ok hK h)
theorem d_inN {i j : Nat} {a b : Expr} (hr : Room j X.A) (ha : PD X C κ a f) (hb : PE X b (tVar i)) (hm : behindInMarks .In b = false := by first | rfl | with_unfolding_all rfl) (hK : C.b.K = X.K := by rfl) : PD X C κ (.Compare a [.In] [b] pos) (inN X.prog X.w X.K id i f) := pe_mono (pe_cmpR (op_inN hr) ha hb hm) fun σ H Q h => inN_ok hK h
theorem d_ninN {i j : Nat} {a b : Expr} (hr : Room j X.A) (ha : PD X C κ a f) (hb : PE X b (tVar i)) (hm : behindInMarks .NotIn b = false := by first | rfl | with_unfolding_all rfl) (hK : C.b.K = X.K := by rfl) : PD X C κ (.Compare a [.NotIn] [b] pos) (inN X.prog X.w X.K (!·) i f) := pe_mono (pe_cmpR (op_ninN hr) ha hb hm) fun σ H Q h => inN_ok hK h
/-- sorted(d) -/
def rSortN (P : Program) (w : World) (K : PySem.W.Frag) : List V → Hp → VK → Prop := fun xs H Q => ∃ (Hh : Hp) (a : Addr) (kvs : List (PyData × PyData)), xs = [.ref a] ∧ Sub Hh H ∧ DctN P w K kvs a (H a) Hh ∧ PySem.W.AllAlike (kvs.map (·.1)) ∧ PySem.W.Sortable (kvs.map (·.1)) ∧ (∀ e ∈ kvs, e.1.depth ≤ 60) ∧ kvs.length ≤ sizeLine ∧
  ∀ (p : Addr) (bs : List (Addr × PyData)), H p = none → bs.map (·.2) = srt (kvs.map (·.1)) → (∀ b ∈ bs, Dp K Hh (.ref b.1) b.2) → Q (.ref p) (upd H p (.lst (bs.map fun b => V.ref b.1)))
mutual
theorem reads_nil {h : Heap} : ∀ {d : PyData} {v : Value} {as : List Addr} {k : NestedKey}, Reads h v d as → nk d = some k → as = []
  | _, _, _, _, .none, _ => rfl
  | _, _, _, _, .bool _, _ => rfl
  | _, _, _, _, .int _ _, _ => rfl
  | _, _, _, _, .str _ _, _ => rfl
  | _, _, _, _, .list _ _ _ _, e => by cases e
  | _, _, _, _, .dict _ _ _ _ _, e => by cases e
  | _, _, _, _, .tuple (xs := xs) _ _ _ r, e => by
    unfold nk at e
    cases z : nkAll xs with
    | none => rw [z] at e; cases e
    | some ks => exact readsAll_nil r z
theorem readsAll_nil {h : Heap} : ∀ {ds : List PyData} {vs : List Value} {as : List Addr} {ks : List NestedKey}, ReadsAll h vs ds as → nkAll ds = some ks → as = []
  | _, _, _, _, .nil, _ => rfl
  | _, _, _, _, .cons a b, e => by
    obtain ⟨k, ks', e1, e2, _⟩ := nkAll_cons e
    rw [reads_nil a e1, readsAll_nil b e2]
    rfl
end
/-- the keys of a dict, where they stand -/
def keysAt : List NEnt → List (PyData × PyData) → List (Addr × PyData)
  | x :: xs, e :: kvs => (x.2.1, e.1) :: keysAt xs kvs
  | _, _ => []
theorem keys_ok {K : PySem.W.Frag} {H : Hp} : ∀ {xs : List NEnt} {kvs : List (PyData × PyData)}, EntsOk K H xs kvs → (keysAt xs kvs).map (·.1) = xs.map (·.2.1) ∧ (keysAt xs kvs).map (·.2) = kvs.map (·.1) ∧ ∀ b ∈ keysAt xs kvs, Dp K H (.ref b.1) b.2 ∧ ∃ k, nk b.2 = some k
  | _, _, .nil => ⟨rfl, rfl, fun _ m => (nomatch m)⟩
  | _, _, .cons h1 h2 h3 h4 h5 f => by
    obtain ⟨e1, e2, e3⟩ := keys_ok f
    refine ⟨congrArg (_ :: ·) e1, congrArg (_ :: ·) e2, fun b m => ?_⟩
    rcases List.mem_cons.mp m with rfl | m
    · exact ⟨h3, _, h1⟩
    · exact e3 b m
theorem cr_sortN (hc : X.calm = true) (hu : X.A.units + 100 < cLine) : CallR X (.builtin "sorted") (rSortN X.prog X.w X.K) := by
  intro pins s σ H vs us Q I r h
  obtain ⟨Hh, a, kvs, rfl, sb, dn, hal, hso, hde, hl, q⟩ := h
  obtain ⟨u, rfl, rx⟩ := r.one
  cases rx
  obtain ⟨xs, hm, ee, lo, o, es, ep, ho, hx, hd, he⟩ := DctN.dict2 I sb dn
  obtain ⟨k1, k2, k3⟩ := keys_ok ee
  have l1 : es.size = xs.length := by rw [← Array.length_toList, he, List.length_map]
  have l2 := ee.len
  have few : (keysAt xs kvs).length ≤ sizeLine := by
    have := congrArg List.length k2
    rw [List.length_map, List.length_map] at this
    omega
  refine Calls.call_function_entry PyProof.Rows.kind_sorted PyProof.Rows.plain_sorted PyProof.Rows.entry_sorted (PyProof.Rows.args_sorted1 _) ?_
  unfold Builtin.«sorted»
  refine wpAny_bind (m := checkCount "sorted" 1 1 _) (wpAny_pure ?_)
  refine wpAny_bind (PySem.W.kdu_collect (A := X.A.in1) (kdl_raw lo hx hd) (I.ok.hd hc) ho (by omega) fun h' tk acc hk it => ?_)
  have ea : acc.toList = (keysAt xs kvs).map fun b => Value.ref b.1 := by
    have e0 : (keysAt xs kvs).map (fun b => Value.ref b.1) = xs.map fun x => Value.ref x.2.1 := by
      have := congrArg (List.map Value.ref) k1
      rw [List.map_map, List.map_map] at this
      exact this
    rw [e0]
    have hlen : acc.toList.length = xs.length := by rw [Array.length_toList, it.1]; exact l1
    apply List.ext_getElem?
    intro j
    rw [List.getElem?_map]
    cases hj : acc.toList[j]? with
    | none =>
      have h1 := List.getElem?_eq_none_iff.mp hj
      rw [List.getElem?_eq_none (by omega)]
      rfl
    | some v =>
      obtain ⟨en, hen, hv⟩ := it.2 j v (by rw [← Array.getElem?_toList]; exact hj)
      rw [← Array.getElem?_toList, he, List.getElem?_map] at hen
      cases hb : xs[j]? with
      | none => rw [hb] at hen; cases hen
      | some b =>
        rw [hb] at hen
        rw [hv, ← Option.some.inj hen]
        rfl
  have I1 : Inv X pins σ H { s with heap := h', toks := tk } := I.kept hk
  refine wpAny_bind (wpAny_newList ?_ (by rw [ea, List.length_map]; exact few))
  rw [ea]
  have hoL : (h'.push (seqObj "list" ((keysAt xs kvs).map fun b => Value.ref b.1).toArray 0)).get? h'.objs.size = some (seqObj "list" ((keysAt xs kvs).map fun b => Value.ref b.1).toArray 0) := Heap.get?_push_size _ rfl
  show wpAny _ _ _ _ _ { s with heap := h'.push (seqObj "list" ((keysAt xs kvs).map fun b => Value.ref b.1).toArray 0), toks := tk }
  refine wpAny_bind (wpAny_holding (PySem.W.list_sort_data (s := { s with heap := h'.push (seqObj "list" ((keysAt xs kvs).map fun b => Value.ref b.1).toArray 0), toks := tk }) (bs := keysAt xs kvs) (enc := fun b => b.2) (R := fun v b => v = Value.ref b.1) hoL
    (each_map fun b hb => rfl) (each_map fun b hb => ?_) (by rw [k2]; exact hal) (by rw [k2]; exact hso) few (fun b hb => ?_) fun out lo eo => ?_))
  · obtain ⟨as, rd⟩ := Dp.reads I1 b.2 (.ref b.1) (.ref b.1) (sb.dp (k3 b hb).1) rfl
    obtain ⟨k, ek⟩ := (k3 b hb).2
    have := reads_nil rd ek
    subst this
    exact ⟨[], PyProof.Rows.Reads.keeps (fun b o z => Heap.get?_push_of_some _ z) rd, by simp⟩
  · have : b.2 ∈ (keysAt xs kvs).map (·.2) := List.mem_map_of_mem hb
    rw [k2] at this
    obtain ⟨e, me, ee2⟩ := List.mem_map.mp this
    have := hde e me
    rw [ee2] at this
    show X.A.units + 1 + 1 + _ < _
    omega
  · have eo' := each_back (f := fun b : Addr × PyData => Value.ref b.1) eo
    have pm := List.mergeSort_perm (keysAt xs kvs) (PySem.W.dataLe false fun b : Addr × PyData => b.2)
    have mm : ((keysAt xs kvs).mergeSort (PySem.W.dataLe false fun b : Addr × PyData => b.2)).map (·.2) = srt (kvs.map (·.1)) := by
      refine Eq.trans (List.map_mergeSort (f := fun b : Addr × PyData => b.2) (r := PySem.W.dataLe false fun b : Addr × PyData => b.2) (s := PySem.W.dataLe false id) (fun _ _ _ _ => rfl)) ?_
      exact congrArg (fun l => List.mergeSort l (PySem.W.dataLe false id)) k2
    generalize (keysAt xs kvs).mergeSort (PySem.W.dataLe false fun b : Addr × PyData => b.2) = ys at eo' pm mm
    subst eo'
    obtain ⟨e', he'⟩ := PyProof.Rows.sortedHeap_at (vs := (keysAt xs kvs).map fun b => Value.ref b.1) (out := (ys.map fun b => Value.ref b.1).toArray) hoL
    refine wpAny_pure ⟨_, rfl, .ref h'.objs.size, upd H h'.objs.size (.lst (ys.map fun y => V.ref y.1)), I1.laid (t' := tk) (fun b u e => ?_) (Nat.le_refl _)
      (show ObjOk X.prog X.w _ _ _ (.lst (ys.map fun y => V.ref y.1)) from ⟨by rw [List.length_map, pm.length_eq]; exact few, ys.map fun e => Value.ref e.1, e', by have := vals_refs (ys.map fun e => e.1); rw [List.map_map, List.map_map] at this; exact this, he'⟩), rfl, q _ ys (I1.hok.fresh (Nat.le_refl _)) mm fun y hy => (k3 y (pm.mem_iff.mp hy)).1⟩
    have hb : b < h'.objs.size := Heap.lt_size e
    rw [PyProof.Rows.sortedHeap_old (Nat.ne_of_lt hb) (by rw [size_push']; exact Nat.lt_succ_of_lt hb)]
    exact Heap.get?_push_of_some _ e
def sortDO (P : Program) (w : World) (K : PySem.W.Frag) (i : Nat) : DEnv → (List PyData → Prop) → Prop := fun ρ R => ∃ kvs, ρ[i]? = some (some (dctO P w K kvs)) ∧ PySem.W.AllAlike (kvs.map (·.1)) ∧ PySem.W.Sortable (kvs.map (·.1)) ∧ (∀ e ∈ kvs, e.1.depth ≤ 60) ∧ kvs.length ≤ sizeLine ∧ R (srt (kvs.map (·.1)))
theorem n_sortDO {i j : Nat} {x : Expr} (hc : X.calm = true) (hr : Room j X.A) (hgl : Gl X "sorted") (hm : X.mg "sorted" = none) (ha : PE X x (tVar i)) (he : starEach [x] X.env = (false, eval x X.env) :: starEach [] X.env := by rfl) (hK : C.b.K = X.K := by rfl) :
    PN X C 0 (.Call (.Name "sorted" p) [x] [] pos) (sortDO X.prog X.w X.K i) :=
  pe_mono (pe_callB (cr_sortN hc (by have := hr.un; omega)) hgl hm (by decide +kernel) (pa_cons ha pa_nil he) (by decide) (by decide) he) fun σ H Q ⟨F, ρ, R, rel, ⟨kvs, hs, h1, h2, h3, h4, k⟩, q⟩ => by
    obtain ⟨a, y, mF, ph, _⟩ := rel_updO rel hs
    refine ⟨.ref a, y, hide H F, a, kvs, rfl, sub_hide, ph, h1, h2, h3, h4, fun p bs hp mm hb => q _ k p _ _ (ev_lst rel.hk hp) hp upd_same ((sub_hold hp).dps ?_)⟩
    rw [← mm, hK]
    clear mm
    induction bs with
    | nil => exact .nil
    | cons b r ih => exact .cons (hb b (List.mem_cons_self ..)) (ih fun z hz => hb z (List.mem_cons_of_mem _ hz))
end
end DL

/-! dict(pairs) as a dict of one's own; calls without arguments; asking for rows. -/
namespace DL
open PySem PySem.Spec PyProof.Rows L2 GX
/-- pairs of a list, where they stand: the pair, its key, its value -/
abbrev PEnt := Addr × NestedKey × Addr × Value
def pe3 (r : PEnt) : NEnt := (r.2.1, r.2.2.1, r.2.2.2)
section
variable {K : PySem.W.Frag} {H : Hp}
theorem ents_all : ∀ {ps : List (NEnt × PyData × PyData)} {xs : List NEnt} {kvs : List (PyData × PyData)}, EntsOk K H xs kvs → (∀ p ∈ ps, ∃ v, nk p.2.1 = some p.1.1 ∧ p.1.1.depth ≤ 8 ∧ Dp K H (.ref p.1.2.1) p.2.1 ∧ RelV v p.1.2.2 ∧ Dp K H v p.2.2) →
    EntsOk K H (storedAllH xs (ps.map (·.1))) (ps.foldl (fun acc p => dput acc p.2.1 p.2.2) kvs)
  | [], xs, kvs, h, _ => h
  | p :: ps, xs, kvs, h, hp => by
    obtain ⟨v, h1, h2, h3, h4, h5⟩ := hp p (List.mem_cons_self ..)
    show EntsOk K H (storedAllH (storedH xs p.1.1 p.1.2.1 p.1.2.2) (ps.map (·.1))) (ps.foldl (fun acc p => dput acc p.2.1 p.2.2) (dput kvs p.2.1 p.2.2))
    exact ents_all (ents_put h1 h2 h3 h4 h5 h) fun q hq => hp q (List.mem_cons_of_mem _ hq)
end
/-- the pairs kvs as data -/
def pairD (e : PyData × PyData) : PyData := .tuple [e.1, e.2]
def dputs (es : List (PyData × PyData)) : List (PyData × PyData) := es.foldl (fun acc p => dput acc p.1 p.2) []
def rDictN (P : Program) (w : World) (K : PySem.W.Frag) : List V → Hp → VK → Prop := fun xs H Q => ∃ (Hh : Hp) (a : Addr) (vs : List V) (es : List (PyData × PyData)), xs = [.ref a] ∧ Sub Hh H ∧ SqL K H a vs ∧ DpAll K Hh vs (es.map pairD) ∧ (∀ e ∈ es, KeyOk e.1) ∧ es.length ≤ sizeLine ∧
  ∀ (p : Addr) (o : HO), H p = none → (∀ ps, o ≠ .tbl ps) → Tk (some o) → DctN P w K (dputs es) p (some o) Hh → Q (.ref p) (upd H p o)
/-- where the pairs stand -/
theorem pairs_stand {X : Cx} {pins : List (Addr × Obj)} {σ : L2.St} {H Hh : Hp} {s : Shared} (I : Inv X pins σ H s) (sb : Sub Hh H) : ∀ {es : List (PyData × PyData)} {vs : List V}, DpAll X.K Hh vs (es.map pairD) → (∀ e ∈ es, KeyOk e.1) →
    ∃ rs : List PEnt, vs = rs.map (fun r => V.ref r.1) ∧ rs.length = es.length ∧ (∀ r ∈ rs, s.heap.IsTuple r.1 #[.ref r.2.2.1, r.2.2.2]) ∧ (∀ p ∈ (rs.map pe3).zip es, ∃ v, nk p.2.1 = some p.1.1 ∧ p.1.1.depth ≤ 8 ∧ Dp X.K Hh (.ref p.1.2.1) p.2.1 ∧ RelV v p.1.2.2 ∧ Dp X.K Hh v p.2.2)
  | [], _, h, _ => by
    cases h
    exact ⟨[], rfl, rfl, fun _ m => (nomatch m), fun _ m => (nomatch m)⟩
  | e :: es, _, h, hk => by
    cases h with
    | cons d r =>
      obtain ⟨rs, rfl, l, g1, g2⟩ := pairs_stand I sb r fun x hx => hk x (List.mem_cons_of_mem _ hx)
      obtain ⟨ds, k, ek, hn, hd⟩ := hk e (List.mem_cons_self ..)
      cases d with
      | tup q1 q2 =>
        cases q2 with
        | cons x1 q3 =>
          cases q3 with
          | cons x2 q4 =>
            cases q4
            rw [ek] at x1
            rename_i p0 _ v0
            cases x1 with
            | tup y1 y2 =>
              rename_i b0 _
              obtain ⟨its, rv, ht, _⟩ := I.tuple (sb.sqt q1)
              obtain ⟨u1, u2, eu, ra, rb⟩ := rv.two
              subst eu
              have ra' : u1 = .ref b0 := ra
              subst ra'
              refine ⟨(p0, k, b0, u2) :: rs, rfl, congrArg (· + 1) l, fun r hr => ?_, fun p hp => ?_⟩
              · rcases List.mem_cons.mp hr with rfl | hr
                · exact ht
                · exact g1 r hr
              · rcases List.mem_cons.mp hp with rfl | hp
                · exact ⟨v0, hn, hd, by rw [ek]; exact .tup y1 y2, rb, x2⟩
                · exact g2 p hp
theorem cr_dictN {X : Cx} (hc : X.calm = true) (hu : X.A.units + 100 < cLine) : CallR X (.type "dict") (rDictN X.prog X.w X.K) := by
  intro pins s σ H xs us Q I r h
  obtain ⟨Hh, a, vs, es, rfl, sb, hq, dp, hk, hl, q⟩ := h
  obtain ⟨u, rfl, rx⟩ := r.one
  cases rx
  obtain ⟨rs, rfl, lr, g1, g2⟩ := pairs_stand I sb dp hk
  obtain ⟨its, rv, ⟨ol, n, ho, hcl, hd, hdat⟩, hz⟩ := I.list hq
  have ei : its = (rs.map (·.1)).map Value.ref := refs_at (by rw [List.map_map]; exact rv)
  subst ei
  have few : rs.length ≤ sizeLine := by omega
  have zl : (rs.map pe3).length = es.length := by rw [List.length_map]; exact lr
  refine call_dict_pairsH (knd := nestedKind X.prog X.w) (ps := rs.map pe3) (PairArg.list a ((rs.map (·.1)).map Value.ref).toArray (fun j => (rs.map (·.1)).getD j 0) (rs.map fun r => (Value.ref r.2.2.1, r.2.2.2))) (I.ok.hd hc) (show X.A.units + 1 + 1 + 8 < cLine by omega)
    ⟨⟨ol, n, ho, hcl, hd, hdat⟩, by simp, fun j k v e => ?_⟩ ⟨by simp, fun i k v e => ?_⟩ (fun h' hk x hx => ?_) (by rw [List.length_map]; exact few) fun h' tk hD hk => ?_
  · rw [List.getElem?_map] at e
    cases z : rs[j]? with
    | none => rw [z] at e; cases e
    | some r =>
      rw [z] at e
      cases e
      have ht := g1 r (List.mem_of_getElem? z)
      have zz : (rs.map (·.1))[j]? = some r.1 := by rw [List.getElem?_map, z]; rfl
      have gd : (rs.map (·.1)).getD j 0 = r.1 := by rw [List.getD_eq_getElem?_getD, zz]; rfl
      refine ⟨?_, .inl ?_⟩
      · rw [List.getElem?_toArray, List.getElem?_map, zz]
        show some (Value.ref r.1) = some (Value.ref ((rs.map (·.1)).getD j 0))
        rw [gd]
      · show s.heap.IsTuple ((rs.map (·.1)).getD j 0) _
        rw [gd]
        exact ht
  · have e : (rs.map fun r => (Value.ref r.2.2.1, r.2.2.2))[i]? = some (k, v) := e
    rw [List.getElem?_map] at e
    cases z : rs[i]? with
    | none => rw [z] at e; cases e
    | some r =>
      rw [z] at e
      cases e
      exact ⟨_, _, by rw [List.getElem?_map, z]; rfl, rfl⟩
  · obtain ⟨i, hi⟩ := List.getElem?_of_mem hx
    have li : i < es.length := by rw [← zl]; exact (List.getElem?_eq_some_iff.mp hi).1
    have mz : (x, es[i]) ∈ (rs.map pe3).zip es := List.mem_of_getElem? (i := i) (by rw [List.getElem?_zip_eq_some]; exact ⟨hi, List.getElem?_eq_getElem li⟩)
    obtain ⟨v, n1, n2, n3, _⟩ := g2 _ mz
    have k1 : (nestedKind X.prog X.w).is s.heap x.1 x.2.1 := ⟨nested_of I (sb.dp n3) rfl n1, n2⟩
    exact nestedKind_stays.stays (fun b o vs m e _ => hk b o (Nat.ne_of_lt (Heap.lt_size e)) (by simp) e) k1
  · have hm : (s.heap.objs.size == sysModules) = false := beq_eq_false_iff_ne.mpr (Nat.ne_of_gt I.big)
    have e1 := ents_all (ps := (rs.map pe3).zip es) .nil g2
    rw [show ((rs.map pe3).zip es).map (·.1) = rs.map pe3 from List.map_fst_zip (by omega)] at e1
    have e2 : (((rs.map pe3).zip es).foldl (fun acc p => dput acc p.2.1 p.2.2) []) = dputs es := by
      unfold dputs
      have z : ((rs.map pe3).zip es).map (·.2) = es := List.map_snd_zip (by omega)
      conv => rhs; rw [← z]
      rw [List.foldl_map]
    rw [e2] at e1
    obtain ⟨ob, o1, o2⟩ := dict_lay hD hm e1
    exact ⟨.ref s.heap.objs.size, upd H s.heap.objs.size (.ext fun h => h.get? s.heap.objs.size = some ob), I.laid (t' := tk) (fun b u e => hk b u (by simp) e) (Nat.le_refl _) (ext_ok o1), rfl, q _ _ (I.hok.fresh (Nat.le_refl _)) (fun _ z => by cases z) (.inr (.inl ⟨_, rfl⟩)) o2⟩
section
variable {X : Cx} {C : Cc} {e : Expr} {pos p pos' : Pos}
def dictO (P : Program) (w : World) (K : PySem.W.Frag) (i : Nat) (f : DEnv → (List PyData → Prop) → Prop) : DS := fun N ρ => f ρ fun ds => ∃ es, ds = es.map pairD ∧ (∀ e ∈ es, KeyOk e.1) ∧ es.length ≤ sizeLine ∧ N.nx (ρ.set i (some (dctO P w K (dputs es))))
theorem s_dictO {i j : Nat} {tg : Expr} {f : DEnv → (List PyData → Prop) → Prop} (hc : X.calm = true) (hr : Room j X.A) (hgl : Gl X "dict") (hm : X.mg "dict" = none) (ha : PN X C κ e f) (hg : PG X tg (gName i)) (he : starEach [e] X.env = (false, eval e X.env) :: starEach [] X.env := by rfl) (hK : C.b.K = X.K := by rfl)
    (hs : swapsWithSole [tg] (.Call (.Name "dict" p) [e] [] pos) pos'.line X.env = pure false := by rfl) (hw : swappedStores [tg] (.Call (.Name "dict" p) [e] [] pos) X.env = pure none := by rfl) (h1 : (assignEach [tg] X.env).map (·.2) = [assign tg X.env] := by rfl) :
    PDS X C κ (.Assign [tg] (.Call (.Name "dict" p) [e] [] pos) pos') (dictO X.prog X.w X.K i f) :=
  ps_mono (ps_asg (pe_callTy (cr_dictN hc (by have := hr.un; omega)) hgl hm (by decide +kernel) (pa_cons ha pa_nil he) (by decide) (by decide) he) hg hs hw h1) fun D σ H ⟨kk, F, ρ, N, rel, ht, g⟩ => ⟨F, ρ, _, rel.lel, ht, fun ds ⟨es, ed, hk, hl, hn⟩ a vs H1 e1 na ha dp => by
    subst ed
    have dpF : DpAll C.b.K (hide H1 F) vs (es.map pairD) := (sub_less fun b m => List.mem_cons_of_mem _ m).dps dp
    refine ⟨hide H1 F, a, vs, es, rfl, sub_hide, .inl (.inl ha), hK ▸ dpF, hk, hl, fun q o hq no tk dn => ?_⟩
    exact g.nx _ hn _ _ _ (rel_newO i (rel.ev e1) hq no tk (dctN_st _ _ _ _ (sub_holdO hq) dn))⟩
/-- f() -/
def call0D (spec : SpecD) : DE := fun _ R => spec [] R
theorem call0_ok {κ : Nat} {spec : SpecD} {E : XK} {σ : L2.St} {H : Hp} {Q : VK} (h : tD C κ (call0D spec) σ H Q) : tCall (spD C.b κ spec) [] E tNil σ H Q := by
  obtain ⟨F, ρ, R, rel, hf, q⟩ := h
  exact ⟨F, [], R, ⟨rel.hk, rel.bud⟩, .nil, hf, fun d hd v H2 e2 dp => q d hd v H2 e2 dp⟩
theorem d_call0 {k κ : Nat} {fa : Addr} {fd : FuncData} {ps : List Str} {x : Str} {spec : SpecD} (G : FnOk X.prog X.w X.K X.mg X.base CX0 k fa fd ps (spD C.b κ spec)) (hr : Room k X.A) (hg : Gl X x) (hm : X.mg x = some (.ref fa)) (hk : PySem.W.keepIn X.K (.ref fa) = true) (hb : Binds X.K fd ps [])
    (hdb : (x == ("__debug__" : Str)) = false := by decide) : PD X C κ (.Call (.Name x p) [] [] pos) (call0D spec) := pe_mono (pe_call0 G hr hg hm hk hb .nil pass0 hdb) fun σ H Q h => call0_ok h
end
/-! ### asking for rows -/
/-- a datum, being so, is asked; a truth is told -/
abbrev askC (c : PyData → Prop) (f : PyData → Bool) : SpecD := sp1 fun d R => c d ∧ R (.bool (f d))
/-- heads of such rows can be held against one another -/
def OrdOk (f : PyData → Bool) : Prop := ∀ x y, f x = true → f y = true → ∃ h r h' r', x = .tuple (h :: r) ∧ y = .tuple (h' :: r') ∧ cOrd h h' ∧ ∀ i, h ≠ .int i
def rowsD (f : PyData → Bool) (d : PyData) : Bool := match d with
  | .tuple ds => ds.all f && riseB (ds.map headD)
  | _ => false
def sp00 (k : (PyData → Prop) → Prop) : SpecD := fun ss R => match ss with
  | [] => k R
  | _ => False
theorem sp00_ok {k : (PyData → Prop) → Prop} {ss : List SV} {R : PyData → Prop} (h : sp00 k ss R) : ss = [] ∧ k R := by
  unfold sp00 at h
  split at h <;> first | exact ⟨rfl, h⟩ | exact h.elim
theorem c00 {k : (PyData → Prop) → Prop} : ∀ ss R, sp00 k ss R → ss.length = 0 := fun ss R h => by obtain ⟨rfl, _⟩ := sp00_ok h; rfl
section
variable {P : Program} {w : World} {K : PySem.W.Frag} {N : DEnds} {ρ : DEnv} {i : Nat} {kvs : List (PyData × PyData)} {R : PyData → Prop} {fk fv : DE} {RL : List PyData → Prop}
theorem i_newD (h : N.nx (ρ.set i (some (dctO P w K [])))) : newD P w K i N ρ := h
theorem i_setD (e : ρ[i]? = some (some (dctO P w K kvs))) (h : fv ρ fun v => fk ρ fun k => KeyOk k ∧ kvs.length < sizeLine ∧ N.nx (ρ.set i (some (dctO P w K (dput kvs k v))))) : setD P w K i fk fv N ρ := ⟨kvs, e, h⟩
theorem i_ixN (e : ρ[i]? = some (some (dctO P w K kvs))) (h : fk ρ fun k => KeyOk k ∧ onO (dget kvs k) R) : ixN' P w K i fk ρ R := ⟨kvs, e, h⟩
theorem i_inN {g : Bool → Bool} (e : ρ[i]? = some (some (dctO P w K kvs))) (h : fk ρ fun k => KeyOk k ∧ R (.bool (g (dget kvs k).isSome))) : inN P w K g i fk ρ R := ⟨kvs, e, h⟩
theorem i_sortDO (e : ρ[i]? = some (some (dctO P w K kvs))) (h : PySem.W.AllAlike (kvs.map (·.1)) ∧ PySem.W.Sortable (kvs.map (·.1)) ∧ (∀ e ∈ kvs, e.1.depth ≤ 60) ∧ kvs.length ≤ sizeLine ∧ RL (srt (kvs.map (·.1)))) : sortDO P w K i ρ RL := ⟨kvs, e, h⟩
theorem i_dictO {f : DEnv → (List PyData → Prop) → Prop} (h : f ρ fun ds => ∃ es, ds = es.map pairD ∧ (∀ e ∈ es, KeyOk e.1) ∧ es.length ≤ sizeLine ∧ N.nx (ρ.set i (some (dctO P w K (dputs es))))) : dictO P w K i f N ρ := h
theorem i_call0 {spec : SpecD} (h : spec [] R) : call0D spec ρ R := h
theorem i_s00 {k : (PyData → Prop) → Prop} (h : k R) : sp00 k [] R := h
end
section
variable {R : PyData → Prop} {x y z : PyData} {r : List PyData}
theorem i_lx0 (h : R x) : ixO (.list (x :: r)) (.int 0) R := onAt0 h
theorem i_lx1 (h : R y) : ixO (.list (x :: y :: r)) (.int 1) R := onAt1 h
theorem i_lx2 (h : R z) : ixO (.list (x :: y :: z :: r)) (.int 2) R := onAt2 h
end
/-! ### truths step by step -/
theorem and_step {b r : Bool} {R : PyData → Prop} {A B : Prop} (h : R (.bool (b && r))) (hA : b = true → R (.bool r) → A) (hB : R (.bool false) → B) : if b = true then A else B := by
  cases b with
  | true => exact hA rfl h
  | false => exact hB h
theorem nand_step {b r : Bool} {R : PyData → Prop} {A B : Prop} (h : R (.bool (b && r))) (hA : b = true → R (.bool r) → B) (hB : R (.bool false) → A) : if (!b) = true then A else B := by
  cases b with
  | true => exact hA rfl h
  | false => exact hB h
theorem or_step {b r : Bool} {R : PyData → Prop} {A B : Prop} (h : R (.bool (b || r))) (hA : R (.bool true) → A) (hB : b = false → R (.bool r) → B) : if b = true then A else B := by
  cases b with
  | true => exact hA h
  | false => exact hB rfl h
def ixD (d : PyData) (i : Nat) : PyData := match d with
  | .tuple ds => ds.getD i .none
  | _ => .none
def itemsT (d : PyData) : List PyData := match d with
  | .tuple ds => ds
  | _ => []
theorem row_len {d : PyData} {n : Int} (h : NA.rowD d n = true) : ∃ ds, d = .tuple ds ∧ (ds.length : Int) = n := by
  cases d with
  | tuple ds => exact ⟨ds, rfl, of_decide_eq_true h⟩
  | _ => cases h
theorem row2 {d : PyData} (h : NA.rowD d 2 = true) : ∃ x y, d = .tuple [x, y] := by
  obtain ⟨ds, rfl, l⟩ := row_len h
  have l : ds.length = 2 := by omega
  match ds, l with
  | [x, y], _ => exact ⟨x, y, rfl⟩
theorem row3 {d : PyData} (h : NA.rowD d 3 = true) : ∃ x y z, d = .tuple [x, y, z] := by
  obtain ⟨ds, rfl, l⟩ := row_len h
  have l : ds.length = 3 := by omega
  match ds, l with
  | [x, y, z], _ => exact ⟨x, y, z, rfl⟩
theorem row5 {d : PyData} (h : NA.rowD d 5 = true) : ∃ a b c d' e, d = .tuple [a, b, c, d', e] := by
  obtain ⟨ds, rfl, l⟩ := row_len h
  have l : ds.length = 5 := by omega
  match ds, l with
  | [a, b, c, d, e], _ => exact ⟨a, b, c, d, e, rfl⟩
theorem row10 {d : PyData} (h : NA.rowD d 10 = true) : ∃ a b c d' e f g h' i j, d = .tuple [a, b, c, d', e, f, g, h', i, j] := by
  obtain ⟨ds, rfl, l⟩ := row_len h
  have l : ds.length = 10 := by omega
  match ds, l with
  | [a, b, c, d, e, f, g, h, i, j], _ => exact ⟨a, b, c, d, e, f, g, h, i, j, rfl⟩
/-! ### what may be asked -/
def Cd (d : PyData) : Prop := Md 1000000 1000000 64 d
theorem Cd.mem {ds : List PyData} {d : PyData} (h : Cd (.tuple ds)) (m : d ∈ ds) : Cd d := (Md.mem (k := 63) h m).mono (Nat.le_refl _) (by omega) (by omega)
theorem Cd.len {ds : List PyData} (h : Cd (.tuple ds)) : ds.length ≤ 1000000 := Md.len h
theorem Cd.txt {x : Str} (h : Cd (.str x)) : x.length ≤ sizeLine := Nat.le_trans h.bulk (by decide)
theorem Cd.int {i : Int} (h : Cd (.int i)) : i ≤ 10 ^ 40 ∧ -(10 ^ 40) ≤ i := by
  have z : i.natAbs ≤ 10 ^ 39 + 1000000 := of_decide_eq_true h.ok
  have y : (10 ^ 39 + 1000000 : Nat) ≤ 10 ^ 40 := by decide +kernel
  have u : ((10 ^ 40 : Nat) : Int) = (10 : Int) ^ 40 := by decide +kernel
  omega
theorem ord_alike {f : PyData → Bool} (h : ∀ x, f x = true → ∃ h r, x = .tuple (h :: r) ∧ NA.seatD h = true) : OrdOk f := fun x y hx hy => by
  obtain ⟨h1, r1, rfl, s1⟩ := h x hx
  obtain ⟨h2, r2, rfl, s2⟩ := h y hy
  exact ⟨h1, r1, h2, r2, rfl, rfl, alike_seats s1 s2⟩
theorem dot_parts {d : PyData} (h : NA.dotD d = true) : ∃ (n0 : Int) (ns : List Int) (m : Int), d = .tuple [NA.dInts (n0 :: ns), .int m] ∧ NA.seatD (NA.dInts (n0 :: ns)) = true ∧ 1 ≤ m := by
  cases d with
  | tuple ds =>
    match ds, h with
    | [x, y], h =>
      have h := Bool.and_eq_true_iff.mp (show (NA.seatD x && NA.fromD y 1) = true from h)
      obtain ⟨n0, ns, rfl, _⟩ := seat_ints h.1
      obtain ⟨m, rfl, l⟩ := from_int h.2
      exact ⟨n0, ns, m, rfl, h.1, l⟩
  | _ => cases h
theorem alike_dots {d e : PyData} (hd : NA.dotD d = true) (he : NA.dotD e = true) : cOrd d e ∧ ∀ i, d ≠ .int i := by
  obtain ⟨n, ns, i, rfl, _⟩ := dot_parts hd
  obtain ⟨m, ms, j, rfl, _⟩ := dot_parts he
  refine ⟨⟨?_, (fun z => nomatch z), ?_⟩, fun i z => nomatch z⟩
  · show PySem.W.alikeAll [NA.dInts (n :: ns), .int i] [NA.dInts (m :: ms), .int j] = true
    simp only [PySem.W.alikeAll, PySem.W.alike, PySem.W.alike_ints (n :: ns) (m :: ms), NA.dInts, Bool.and_self]
  · have : (PyData.tuple [NA.dInts (n :: ns), .int i]).depth ≤ 2 := by
      refine (depth_tup (k := 1)).mpr fun d hd => ?_
      simp only [List.mem_cons, List.mem_nil_iff, or_false] at hd
      rcases hd with rfl | rfl
      · show PyData.depthAll ((n :: ns).map PyData.int) + 1 ≤ 1
        rw [PySem.W.depth_ints]
        exact Nat.le_refl 1
      · exact Nat.zero_le _
    exact Nat.le_trans (Nat.min_le_left _ _) (by omega)
theorem ord_dots {f : PyData → Bool} (h : ∀ x, f x = true → ∃ h r, x = .tuple (h :: r) ∧ NA.dotD h = true) : OrdOk f := fun x y hx hy => by
  obtain ⟨h1, r1, rfl, s1⟩ := h x hx
  obtain ⟨h2, r2, rfl, s2⟩ := h y hy
  exact ⟨h1, r1, h2, r2, rfl, rfl, alike_dots s1 s2⟩
/-- for d in ds: if not p(d): return False -/
theorem for_ask {p : PyData → Bool} {j : Nat} {t : DS} {N : DEnds} (J : DEnv → Prop) (hJ : ∀ ρ d, J ρ → J (ρ.set j (some (.d d)))) : ∀ {ds : List PyData} {ρ : DEnv}, J ρ → (∀ d ∈ ds, ∀ ρ N', J ρ → (p d = true → ∀ ρ', J ρ' → N'.nx ρ') → (p d = false → N'.rt (.bool false)) → t N' (ρ.set j (some (.d d)))) →
    (ds.all p = true → ∀ ρ, J ρ → N.nx ρ) → (ds.all p = false → N.rt (.bool false)) → forD (gN j) t N ds ρ := by
  intro ds
  induction ds with
  | nil => exact fun j _ h _ => h rfl _ j
  | cons d r ih =>
    intro ρ j0 hs h1 h2
    rw [List.all_cons] at h1 h2
    refine hs d (List.mem_cons_self ..) ρ _ j0 (fun e ρ' j' => ?_) (fun e => ?_)
    · rw [e, Bool.true_and] at h1 h2
      exact ih j' (fun x hx => hs x (List.mem_cons_of_mem _ hx)) h1 h2
    · rw [e, Bool.false_and] at h2
      exact h2 rfl
/-- any(f(x) for x in ds) -/
theorem aa_any {f : PyData → Bool} {g : DG} {fe : DE} {ρ : DEnv} {R : PyData → Prop} : ∀ {ds : List PyData}, (∀ d ∈ ds, ∀ Q : PyData → Prop, Q (.bool (f d)) → g d ρ fun ρ' => fe ρ' Q) → R (.bool (ds.any f)) → aaD false (fun d ρ Q => g d ρ Q) yesT fe ρ R ds := by
  intro ds
  induction ds with
  | nil => exact fun _ h => h
  | cons d r ih =>
    intro hs h
    have step := hs d (List.mem_cons_self ..) (fun z => onB z fun c => if c = false then aaD false g yesT fe ρ R r else R (.bool (!false)))
    refine step ?_
    show if f d = false then _ else _
    rw [List.any_cons] at h
    cases e : f d with
    | false =>
      rw [e, Bool.false_or] at h
      rw [if_pos rfl]
      exact ih (fun x hx => hs x (List.mem_cons_of_mem _ hx)) h
    | true =>
      rw [e, Bool.true_or] at h
      rw [if_neg (by decide)]
      exact h
/-! ### keys -/
theorem keq_refl {a b : PyData} (h : a = b) : keq a b = true := by rw [h]; exact decide_eq_true rfl
theorem dput_mem {kvs : List (PyData × PyData)} {k v : PyData} {e : PyData × PyData} (h : e ∈ dput kvs k v) : (e ∈ kvs ∨ e = (k, v)) ∨ ∃ e' ∈ kvs, e = (e'.1, v) := by
  unfold dput at h
  split at h
  · obtain ⟨e', m, rfl⟩ := List.mem_map.mp h
    split
    · exact .inr ⟨e', m, rfl⟩
    · exact .inl (.inl m)
  · rcases List.mem_append.mp h with m | m
    · exact .inl (.inl m)
    · exact .inl (.inr (List.mem_singleton.mp m))
theorem dput_len {kvs : List (PyData × PyData)} {k v : PyData} : (dput kvs k v).length ≤ kvs.length + 1 := by
  unfold dput
  split
  · rw [List.length_map]
    omega
  · rw [List.length_append]
    exact Nat.le_refl _
/-- all keys so, all values so, few -/
def KvOk (Pk Pv : PyData → Prop) (n : Nat) (kvs : List (PyData × PyData)) : Prop := kvs.length ≤ n ∧ ∀ e ∈ kvs, Pk e.1 ∧ Pv e.2
theorem KvOk.nil {Pk Pv : PyData → Prop} {n : Nat} : KvOk Pk Pv n [] := ⟨Nat.zero_le _, fun _ m => (nomatch m)⟩
theorem KvOk.put {Pk Pv : PyData → Prop} {n : Nat} {kvs : List (PyData × PyData)} {k v : PyData} (h : KvOk Pk Pv n kvs) (hk : Pk k) (hv : Pv v) : KvOk Pk Pv (n + 1) (dput kvs k v) := by
  refine ⟨Nat.le_trans dput_len (Nat.add_le_add_right h.1 1), fun e m => ?_⟩
  rcases dput_mem m with (m1 | rfl) | ⟨e', m2, rfl⟩
  · exact h.2 e m1
  · exact ⟨hk, hv⟩
  · exact ⟨(h.2 e' m2).1, hv⟩
theorem KvOk.puts {Pk Pv : PyData → Prop} : ∀ {es kvs : List (PyData × PyData)} {n : Nat}, KvOk Pk Pv n kvs → (∀ e ∈ es, Pk e.1 ∧ Pv e.2) → KvOk Pk Pv (n + es.length) (es.foldl (fun acc p => dput acc p.1 p.2) kvs)
  | [], kvs, n, h, _ => h
  | e :: es, kvs, n, h, he => by
    have z := KvOk.puts (es := es) (h.put (he e (List.mem_cons_self ..)).1 (he e (List.mem_cons_self ..)).2) fun x hx => he x (List.mem_cons_of_mem _ hx)
    rw [List.length_cons, show n + (es.length + 1) = n + 1 + es.length by omega]
    exact z
theorem KvOk.get {Pk Pv : PyData → Prop} {n : Nat} {kvs : List (PyData × PyData)} {k : PyData} (h : KvOk Pk Pv n kvs) (m : k ∈ kvs.map (·.1)) : ∃ v, dget kvs k = some v ∧ Pv v := by
  obtain ⟨e, me, rfl⟩ := List.mem_map.mp m
  unfold dget
  cases z : kvs.find? fun x => keq x.1 e.1 with
  | none => exact absurd (keq_refl rfl) (List.find?_eq_none.mp z e me)
  | some x => exact ⟨x.2, rfl, (h.2 x (List.mem_of_find?_eq_some z)).2⟩
theorem srt_mem {ds : List PyData} {d : PyData} : d ∈ srt ds ↔ d ∈ ds := (List.mergeSort_perm ds _).mem_iff
theorem srt_len {ds : List PyData} : (srt ds).length = ds.length := (List.mergeSort_perm ds _).length_eq
end DL

/-! name = [.. for ..] where the name is a local. -/
namespace DL
open PySem PySem.Spec PyProof.Rows L2 GX
section
variable {X : Cx} {C : Cc}
theorem asg_own {st : Stmt} {κ i : Nat} {f : DEnv → (List PyData → Prop) → Prop} (h : PS X st (tAsg (tN C κ f) (gName i))) : PDS X C κ st (ownS i f) := ps_mono h fun D σ H ⟨k, F, ρ, N, rel, ht, g⟩ =>
  ⟨F, ρ, _, rel.lel, ht, fun ds hd a vs H' ev na ha dp => g.nx _ hd _ _ H' (rel_own i rel ev na ha dp)⟩
theorem asg_dat {st : Stmt} {κ i : Nat} {f : DEnv → (List PyData → Prop) → Prop} (h : PS X st (tAsg (tN C κ f) (gName i))) : PDS X C κ st (asgS (asL f) (gN i)) := ps_mono h fun D σ H ⟨k, F, ρ, N, rel, ht, g⟩ =>
  ⟨F, ρ, _, rel.lel, ht, fun ds hd a vs H' ev na ha dp =>
    have dp' : Dp C.b.K (hide H' F) (.ref a) (.list ds) := .lst (.inl (.inl (by rw [hide_out (new_out rel.hk na)]; exact ha))) ((sub_less fun b m => List.mem_cons_of_mem _ m).dps dp)
    g.nx _ hd _ _ H' ((rel.ev ev).set i dp')⟩
variable {i : Nat} {y : Str} {py : Pos} {elt tg iter : Expr} {ifs : List Expr} {scope : Scope} {own : List (Str × Nat)} {pos spos : Pos} {κi κt κe : Nat} {fi : DEnv → (List PyData → Prop) → Prop} {js : List Nat} {g : DG} {gt : DT} {fe : DE}
theorem set_lc (hc : X.calm = true) (hN : X.N.Nodup) (hy : X.N[i]? = some y) (hyl : X.env.scope.names.lookup y = some .local) (hk : X.env.scope.kind = .function) (hl : (py.line == pos.line) = true) (ha : (scope.names.any fun (n, k) => n == y && (k == .local || k == .cell)) = false) (hi : PPI X C κi tg iter fi) (ok : BlkOk X.N X.env.scope scope own)
    (hg : ∀ (s : Shared) (H : Hp) (D : Addr) (cl : List (Str × Addr)) (fp : List Addr), PDG (X.blk s H scope (compEnvC scope cl D X.env) fp) C tg js g) (ht : ∀ (s : Shared) (H : Hp) (D : Addr) (cl : List (Str × Addr)) (fp : List Addr), PDTs (X.blk s H scope (compEnvC scope cl D X.env) fp) C κt ifs gt)
    (he : ∀ (s : Shared) (H : Hp) (D : Addr) (cl : List (Str × Addr)) (fp : List Addr), PD (X.blk s H scope (compEnvC scope cl D X.env) fp) C κe elt fe) (hjs : ∀ j ∈ js, j ∈ own.map (·.2)) (hs : ∀ x, foldedSetIterable iter X.env x = pure x := by intro _; rfl) (hz : κt + κe = 0 := by rfl) :
    PS X (.Assign [.Name y py] (.ListComp elt [⟨tg, iter, ifs, 0⟩] scope pos) spos) (tAsg (tN C κi (lcN fi (own.map (·.2)) g gt fe)) (gName i)) :=
  ps_mono (ps_setLc hc hN hy hyl (sw_true hk hyl hl ha) hi ok hg ht he hs) fun D σ H h => lc_ok (L := 0) (κt := κt) (κe := κe) (fun _ A => A) (fun _ _ h => ⟨.inl hz, h⟩) hjs (by rw [hz]; exact h)
theorem set_lcL (L : Nat) (hc : X.calm = true) (hN : X.N.Nodup) (hy : X.N[i]? = some y) (hyl : X.env.scope.names.lookup y = some .local) (hk : X.env.scope.kind = .function) (hl : (py.line == pos.line) = true) (ha : (scope.names.any fun (n, k) => n == y && (k == .local || k == .cell)) = false) (hi : PPI X C κi tg iter fi) (ok : BlkOk X.N X.env.scope scope own)
    (hg : ∀ (s : Shared) (H : Hp) (D : Addr) (cl : List (Str × Addr)) (fp : List Addr), PDG (X.blk s H scope (compEnvC scope cl D X.env) fp) C tg js g) (ht : ∀ (s : Shared) (H : Hp) (D : Addr) (cl : List (Str × Addr)) (fp : List Addr), PDTs (X.blk s H scope (compEnvC scope cl D X.env) fp) C κt ifs gt)
    (he : ∀ (s : Shared) (H : Hp) (D : Addr) (cl : List (Str × Addr)) (fp : List Addr), PD (X.blk s H scope (compEnvC scope cl D X.env) fp) C κe elt fe) (hjs : ∀ j ∈ js, j ∈ own.map (·.2)) (hs : ∀ x, foldedSetIterable iter X.env x = pure x := by intro _; rfl) :
    PS X (.Assign [.Name y py] (.ListComp elt [⟨tg, iter, ifs, 0⟩] scope pos) spos) (tAsg (tN C (κi + L * (κt + κe)) (lcNL L fi (own.map (·.2)) g gt fe)) (gName i)) :=
  ps_mono (ps_setLc hc hN hy hyl (sw_true hk hyl hl ha) hi ok hg ht he hs) fun D σ H h => lc_ok (L := L) (fun ds A => ds.length ≤ L ∧ A) (fun _ _ h => ⟨.inr h.1, h.2⟩) hjs h
end
/-! ### keys that are seats, dots, heads of letters -/
theorem nkAll_ints : ∀ ns : List Int, nkAll (ns.map PyData.int) = some (ns.map NestedKey.num)
  | [] => rfl
  | n :: r => by
    show ((nk (.int n)).bind fun k => (nkAll (r.map PyData.int)).map (k :: ·)) = _
    rw [nkAll_ints r]
    rfl
theorem depthAll_nums : ∀ ns : List Int, NestedKey.depthAll (ns.map NestedKey.num) = 0
  | [] => rfl
  | n :: r => by
    show max (NestedKey.depth (.num n)) (NestedKey.depthAll (r.map NestedKey.num)) = 0
    rw [depthAll_nums r]
    rfl
/-- what sorted asks of keys -/
structure KP (Pk : PyData → Prop) : Prop where
  al : ∀ x y, Pk x → Pk y → PySem.W.alike x y = true
  tu : ∀ x, Pk x → ∃ h r, x = .tuple (h :: r)
  de : ∀ x, Pk x → x.depth ≤ 2
  ke : ∀ x, Pk x → KeyOk x
def isSeat (d : PyData) : Prop := NA.seatD d = true
def isDot (d : PyData) : Prop := ∃ (s : PyData) (n : Int), d = .tuple [s, .int n] ∧ NA.seatD s = true ∧ 0 ≤ n ∧ n ≤ 1000000
theorem kp_seat : KP isSeat := ⟨fun x y hx hy => (alike_seats hx hy).1.1, fun x hx => by obtain ⟨n, ns, rfl, _⟩ := seat_ints hx; exact ⟨_, _, rfl⟩, fun x hx => (md_seat (a := 0) (b := 5) (k := 2) hx (by decide) (by decide)).depth, fun x hx => by
  obtain ⟨n, ns, rfl, _⟩ := seat_ints hx
  refine ⟨_, .tup ((n :: ns).map .num), rfl, ?_, ?_⟩
  · show (nkAll ((n :: ns).map PyData.int)).map _ = _
    rw [nkAll_ints]
    rfl
  · show NestedKey.depthAll ((n :: ns).map NestedKey.num) + 1 ≤ 8
    rw [depthAll_nums]
    decide⟩
theorem md_tupS {a b k n B : Nat} {ds : List PyData} (h : ∀ d ∈ ds, Md a b k d) (hl : ds.length ≤ n) (hB : n * (b + 1) ≤ B) : Md a B (k + 1) (.tuple ds) :=
  md_tup.mpr ⟨fun d m => (h d m).ok, Nat.le_trans (bulkAll_each fun d m => (h d m).bulk) (Nat.le_trans (Nat.mul_le_mul_right _ hl) hB), fun d m => (h d m).depth⟩
theorem md_lstS {a b k n B : Nat} {ds : List PyData} (h : ∀ d ∈ ds, Md a b k d) (hl : ds.length ≤ n) (hB : n * (b + 1) ≤ B) : Md a B (k + 1) (.list ds) :=
  md_lst.mpr ⟨fun d m => (h d m).ok, Nat.le_trans (bulkAll_each fun d m => (h d m).bulk) (Nat.le_trans (Nat.mul_le_mul_right _ hl) hB), fun d m => (h d m).depth⟩
theorem all2 {P : PyData → Prop} {x y : PyData} (hx : P x) (hy : P y) : ∀ d ∈ [x, y], P d := fun d m => by
  rcases List.mem_cons.mp m with rfl | m
  · exact hx
  · rw [List.mem_singleton.mp m]
    exact hy
theorem all3 {P : PyData → Prop} {x y z : PyData} (hx : P x) (hy : P y) (hz : P z) : ∀ d ∈ [x, y, z], P d := fun d m => by
  rcases List.mem_cons.mp m with rfl | m
  · exact hx
  · exact all2 hy hz d m
theorem md2 {a b c k B : Nat} {x y : PyData} (hx : Md a b k x) (hy : Md a c k y) (hB : b + c + 2 ≤ B) : Md a B (k + 1) (.tuple [x, y]) :=
  md_tup.mpr ⟨all2 hx.ok hy.ok, by show x.bulk + 1 + (y.bulk + 1 + 0) ≤ B; have := hx.bulk; have := hy.bulk; omega, all2 hx.depth hy.depth⟩
theorem md3 {a b c e k B : Nat} {x y z : PyData} (hx : Md a b k x) (hy : Md a c k y) (hz : Md a e k z) (hB : b + c + e + 3 ≤ B) : Md a B (k + 1) (.tuple [x, y, z]) :=
  md_tup.mpr ⟨all3 hx.ok hy.ok hz.ok, by show x.bulk + 1 + (y.bulk + 1 + (z.bulk + 1 + 0)) ≤ B; have := hx.bulk; have := hy.bulk; have := hz.bulk; omega, all3 hx.depth hy.depth hz.depth⟩
theorem md_dot {b k : Nat} {d : PyData} (h : isDot d) (hb : 7 ≤ b) (hk : 2 ≤ k) : Md 0 b k d := by
  obtain ⟨s, n, rfl, hs, n0, n1⟩ := h
  exact (md2 (k := 1) (B := 7) (md_seat (b := 5) hs (by decide) (by decide)) (md_small (b := 0) (by omega)) (by decide)).mono (Nat.le_refl _) hb hk
theorem kp_dot : KP isDot := ⟨fun x y hx hy => by
  obtain ⟨s, n, rfl, hs, _⟩ := hx
  obtain ⟨t, m, rfl, ht, _⟩ := hy
  show PySem.W.alikeAll [s, .int n] [t, .int m] = true
  have := (alike_seats hs ht).1.1
  simp only [PySem.W.alikeAll, PySem.W.alike, this, Bool.and_self], fun x hx => by obtain ⟨s, n, rfl, _⟩ := hx; exact ⟨_, _, rfl⟩, fun x hx => (md_dot (b := 7) (k := 2) hx (by decide) (by decide)).depth, fun x hx => by
  obtain ⟨s, n, rfl, hs, _⟩ := hx
  obtain ⟨ds, k, e, hk, hd⟩ := kp_seat.ke s hs
  refine ⟨_, .tup [k, .num n], rfl, ?_, ?_⟩
  · show ((nk s).bind fun k => (some [NestedKey.num n]).map (k :: ·)).map _ = _
    rw [hk]
    rfl
  · show max k.depth (max 0 0) + 1 ≤ 8
    obtain ⟨i, is, e2, _⟩ := seat_ints hs
    subst e2
    have hk : (nkAll ((i :: is).map PyData.int)).map NestedKey.tup = some k := hk
    rw [nkAll_ints] at hk
    cases hk
    show max (NestedKey.depthAll ((i :: is).map NestedKey.num) + 1) (max 0 0) + 1 ≤ 8
    rw [depthAll_nums]
    decide⟩
/-- sorted(dict) -/
theorem kv_sort {Pk Pv : PyData → Prop} {n : Nat} {kvs : List (PyData × PyData)} {A : Prop} (kp : KP Pk) (h : KvOk Pk Pv n kvs) (hn : n ≤ 1000) (hA : A) : PySem.W.AllAlike (kvs.map (·.1)) ∧ PySem.W.Sortable (kvs.map (·.1)) ∧ (∀ e ∈ kvs, e.1.depth ≤ 60) ∧ kvs.length ≤ sizeLine ∧ A := by
  have k1 : ∀ x ∈ kvs.map (·.1), Pk x := fun x m => by obtain ⟨e, me, rfl⟩ := List.mem_map.mp m; exact (h.2 e me).1
  exact ⟨fun x hx y hy => kp.al x y (k1 x hx) (k1 y hy), .inl fun x hx => kp.tu x (k1 x hx), fun e m => Nat.le_trans (kp.de _ (h.2 e m).1) (by decide), few (by have := h.1; omega), hA⟩
/-- [d[k] for k in sorted(d)] -/
theorem kv_each {Pk Pv : PyData → Prop} {n : Nat} {kvs : List (PyData × PyData)} (h : KvOk Pk Pv n kvs) {x : PyData} (hx : x ∈ srt (kvs.map (·.1))) : Pk x ∧ ∃ v, dget kvs x = some v ∧ Pv v := by
  have m := srt_mem.mp hx
  refine ⟨?_, h.get m⟩
  obtain ⟨e, me, rfl⟩ := List.mem_map.mp m
  exact (h.2 e me).1
theorem i_get {o : Option PyData} {v : PyData} {R : PyData → Prop} (e : o = some v) (h : R v) : onO o R := by rw [e]; exact h
theorem KvOk.le {Pk Pv : PyData → Prop} {n m : Nat} {kvs : List (PyData × PyData)} (h : KvOk Pk Pv n kvs) (l : n ≤ m) : KvOk Pk Pv m kvs := ⟨Nat.le_trans h.1 l, h.2⟩
theorem KvOk.few {Pk Pv : PyData → Prop} {n : Nat} {kvs : List (PyData × PyData)} (h : KvOk Pk Pv n kvs) (l : n ≤ 1000) : kvs.length < sizeLine := fewer (by have := h.1; omega)
theorem md_putN {a c b k : Nat} {ds : List PyData} {m : Nat} {x z : PyData} (h : Md a b (k + 1) (.tuple ds)) (hm : ds[m]? = some x) (hz : okD' (a + c) z = true) (hb : z.bulk ≤ 2 * x.bulk + 100) (hd : z.depth ≤ k + 3) :
    Md (a + c) (2 * b + 100) (k + 4) (.tuple (ds.take m ++ [z] ++ ds.drop (m + 1))) := by
  obtain ⟨h1, h2, h3⟩ := md_tup.mp h
  have e : ∀ d ∈ ds.take m ++ [z] ++ ds.drop (m + 1), okD' (a + c) d = true ∧ d.depth ≤ k + 3 := fun d hd' => by
    rcases List.mem_append.mp hd' with hd' | hd'
    · rcases List.mem_append.mp hd' with hd' | hd'
      · exact ⟨ok_mono (by omega) (h1 d (List.mem_of_mem_take hd')), by have := h3 d (List.mem_of_mem_take hd'); omega⟩
      · rw [List.mem_singleton.mp hd']
        exact ⟨hz, hd⟩
    · exact ⟨ok_mono (by omega) (h1 d (List.mem_of_mem_drop hd')), by have := h3 d (List.mem_of_mem_drop hd'); omega⟩
  refine md_tup.mpr ⟨fun d m => (e d m).1, ?_, fun d m => (e d m).2⟩
  have := bulkAll_at hm
  rw [bulkAll_cat, bulkAll_cat, bulkAll_cons]
  show _ + (_ + 1 + 0) + _ ≤ _
  omega
/-- a pick of the first three -/
theorem i_pick3 {x y z : PyData} {r : List PyData} {i : Int} {R : PyData → Prop} (h0 : 0 ≤ i) (h1 : i < 3) (h : ∀ q ∈ [x, y, z], R q) : ixO (.list (x :: y :: z :: r)) (.int i) R := by
  have e : i = 0 ∨ i = 1 ∨ i = 2 := by omega
  rcases e with rfl | rfl | rfl
  · exact onAt0 (h x (by simp))
  · exact onAt1 (h y (by simp))
  · exact onAt2 (h z (by simp))
end DL

/-! a, b = x, y with local names. -/
namespace DL
open PySem PySem.Spec PyProof.Rows L2 GX
def parS (i j : Nat) (g : DA) : DS := fun N ρ => g ρ fun ds => ∃ d e, ds = [d, e] ∧ N.nx ((ρ.set i (some (.d d))).set j (some (.d e)))
theorem s_par {X : Cx} {C : Cc} {κ i j : Nat} {x y : Str} {a b : Expr} {g : DA} {px py pt pos : Pos} {kt k2 pt2} (hc : X.calm = true) (hN : X.N.Nodup) (hi : X.N[i]? = some x) (hj : X.N[j]? = some y) (hij : i ≠ j)
    (hx : X.env.scope.names.lookup x = some .local) (hy : X.env.scope.names.lookup y = some .local) (ha : PDA X C κ [a, b] g)
    (hw : swappedStores [.Tuple [.Name x px, .Name y py] kt pt] (.Tuple [a, b] k2 pt2) X.env = pure (some [x, y]))
    (hs : swapsWithSole [.Tuple [.Name x px, .Name y py] kt pt] (.Tuple [a, b] k2 pt2) pos.line X.env = pure false := by rfl) :
    PDS X C κ (.Assign [.Tuple [.Name x px, .Name y py] kt pt] (.Tuple [a, b] k2 pt2) pos) (parS i j g) := ps_mono (ps_par hc hN hi hj hij hx hy ha hw hs) fun D σ H ⟨k, F, ρ, N, rel, ht, g⟩ =>
  ⟨F, ρ, _, rel.lel, ht, fun ds ⟨d, e, hd, hn⟩ vs H' ev dp => by
    subst hd
    cases dp with
    | cons d1 r1 =>
      cases r1 with
      | cons d2 r2 =>
        cases r2
        exact ⟨_, _, rfl, g.nx _ hn _ _ H' (((rel.ev ev).set i d1).set j d2)⟩⟩
theorem i_par {i j : Nat} {g : DA} {N : DEnds} {ρ : DEnv} (h : g ρ fun ds => ∃ d e, ds = [d, e] ∧ N.nx ((ρ.set i (some (.d d))).set j (some (.d e)))) : parS i j g N ρ := h
end DL

/-! {'a': 1, ..}.get(text, 1). -/
namespace DL
open PySem PySem.Spec PyProof.Rows L2 GX
def getV (kvs : List (Str × Int)) : List (Key × V) := mergeK [] (kvs.map fun e => (Sum.inr e.1, V.int e.2))
def getC (kvs : List (Str × Int)) (dflt : Int) (f : DE) : DE := fun ρ R => f ρ fun d => ∃ x, d = .str x ∧ ∃ i : Int, (valV (getV kvs) (.inr x)).getD (.int dflt) = .int i ∧ R (.int i)
def trsC (kvs : List (Str × Int)) : List (TE × TE) := kvs.map fun e => (tC (.str e.1), tC (.int e.2))
theorem pairs_c : ∀ {kvs : List (Str × Int)} {σ : L2.St} {H : Hp} {Q : List (V × V) → Hp → Prop}, Q (kvs.map fun e => (V.str e.1, V.int e.2)) H → tPairs (trsC kvs) σ H Q
  | [], _, _, _, h => h
  | e :: r, σ, H, Q, h => pairs_c (kvs := r) (Q := fun ps H3 => Q ((V.str e.1, V.int e.2) :: ps) H3) h
theorem d_getC {X : Cx} {C : Cc} {κ j : Nat} {kvs : List (Str × Int)} {dflt : Int} {o e : Expr} {f : DE} {jj} {apos fp cpos : Pos} (hr : Room j X.A) (ho : PE X o (tDisp (trsC kvs))) (hl : kvs.length ≤ 15) (he : PD X C κ e f) (m : M2 X o "get" apos e (.Constant (.int dflt) jj fp) cpos) :
    PD X C κ (.Call (.Attribute o "get" apos) [e, .Constant (.int dflt) jj fp] [] cpos) (getC kvs dflt f) := pe_mono (pe_dget2 (by have := hr.un; omega) ho he pe_int m) fun σ H Q ⟨F, ρ, R, rel, hf, q⟩ => by
  intro p np
  refine pairs_c ?_
  have nT : p ∉ C.b.Ts := fun hT => by
    obtain ⟨ps, q1, _⟩ := rel.hk.tab p hT
    rw [np] at q1
    cases q1
  have ng : C.b.g ≠ some p := fun z => by
    obtain ⟨mg, _⟩ := rel.hk.fd p z
    exact new_out rel.hk np mg
  have eu : upd (upd H p (.dK [])) p (.dK (getV kvs)) = upd H p (.dK (getV kvs)) := by
    funext b
    by_cases hb : b = p
    · subst hb; rw [upd_same, upd_same]
    · rw [upd_ne hb, upd_ne hb, upd_ne hb]
  refine ⟨upd_same, kvs.map fun e => (.inr e.1, .int e.2), by rw [List.map_map]; rfl, by rw [List.length_map]; exact hl, p, rfl, .inl ⟨_, .inl upd_same⟩, ?_⟩
  have e1 : Ev C.b 0 F H (upd H p (.dK (getV kvs))) := Ev.new rel.hk np fun _ z => by cases z
  show tD C κ f σ (upd (upd H p (.dK [])) p (.dK (getV kvs))) _
  rw [eu]
  refine ⟨F, ρ, _, rel.ev0 e1, hf, fun d hd v H' e2 dp => ?_⟩
  obtain ⟨x, rfl, i, hi, hR⟩ := hd
  have kp : H' p = some (.dK (getV kvs)) := e2.keep p _ upd_same nT ng
  cases dp
  refine ⟨_, .inl ⟨_, .inr x, .inl kp, rfl, rfl⟩, ?_⟩
  rw [hi]
  exact q _ hR _ H' ((e1.trans e2).le (by omega)) (.int _)
theorem i_getC {kvs : List (Str × Int)} {dflt : Int} {f : DE} {ρ : DEnv} {R : PyData → Prop} (h : f ρ fun d => ∃ x, d = .str x ∧ ∃ i : Int, (valV (getV kvs) (.inr x)).getD (.int dflt) = .int i ∧ R (.int i)) : getC kvs dflt f ρ R := h
end DL

/-! Dicts of one's own whose keys are texts. -/
namespace DL
open PySem PySem.Spec PyProof.Rows L2 GX
/-- {k: v, ..}: the pairs, then the new dict -/
def tDispL (trs : List (TE × TE)) : TE := fun σ H Q => tPairs trs σ H fun ps H2 => ∃ kvs : List (Key × V), ps = kvs.map (fun kv => (kV kv.1, kv.2)) ∧ kvs.length ≤ 15 ∧ ∀ p, H2 p = none → Q (.ref p) (upd H2 p (.dK (mergeK [] kvs)))
theorem pe_dispL {X : Cx} {pos : Pos} {keys : List (Option Expr)} {values : List Expr} {trs : List (TE × TE)} (h : PPs X pos keys values trs) (hall : keys.all (·.isSome) = true) (hl : keys.length = values.length) (h0 : keys ≠ [])
    (h15 : keys.length ≤ 15) : PE X (.Dict keys values pos) (tDispL trs) := by
  refine ⟨fun pins s σ H Q I q => ?_⟩
  have I1 := ClX.pin_new (t' := s.toks) (h' := s.heap.push { cls := .type "dict", data := .dict #[] }) I (fun _ _ q => Heap.get?_push_of_some _ q) (Nat.le_refl _) (Heap.get?_push_size _ rfl) (fun v z => by cases z)
  refine wpAny_Dict_walk (knd := mixKind X.prog X.w) hall hl h0 h15 (thn (h.run _ _ σ _ _ I1 q) fun ws s2 ⟨ps, H2, I2, rel, kvs, ep, lk, q2⟩ => ?_)
  subst ep
  obtain ⟨rs, c, rk⟩ := carries_of (P := X.prog) (w := X.w) rel
  have I3 := ClX.unpin I2
  have pa := ClX.pin_at I2
  have pu := ClX.pin_un I2
  have f : FpOk X pins H2 s.heap.objs.size := I.fpOk (Nat.le_refl _) pu
  have dd : s2.heap.DictOf (mixKind X.prog X.w) s.heap.objs.size [] := by
    obtain ⟨ob, h1, h2⟩ := Heap.dictOf_iff.mp (Heap.DictOf.new (knd := mixKind X.prog X.w) s.heap)
    rw [Heap.get?_push_size _ rfl] at h1
    cases h1
    exact Heap.dictOf_iff.mpr ⟨_, pa, h2⟩
  refine ⟨rs, c, dd, fun h' dd' hs => ⟨.ref s.heap.objs.size, _, ?_, rfl, q2 _ pu⟩⟩
  have hz : (mergeK [] kvs).length ≤ sizeLine := by
    have h1 := length_mergeK kvs []
    rw [List.length_nil] at h1
    rw [sizeLine_eq]; omega
  exact I3.take (fun b ob hb e => (hs.2 b hb).trans e) f (dk_new hz (beq_eq_false_iff_ne.mpr (Ne.symm (Nat.ne_of_lt I.big))) (rk.merge .nil) dd')
/-- d.update(e) -/
def rUpd : V → List V → Hp → VK → Prop := fun x vs H Q => ∃ a b ks ls, x = .ref a ∧ vs = [.ref b] ∧ a ≠ b ∧ H a = some (.dK ks) ∧ H b = some (.dK ls) ∧ ks.length + ls.length ≤ sizeLine ∧ Q .non (upd H a (.dK (mergeK ks ls)))
theorem mt_upd {X : Cx} : MtM X "dict.update" rUpd := by
  intro pins s σ H x vs v us Q I rx rv h
  obtain ⟨a, b, ks, ls, rfl, rfl, ne, ha, hb, hz, q⟩ := h
  cases rx
  obtain ⟨u, rfl, ru⟩ := rv.one
  cases ru
  obtain ⟨z1, lo1, ws, r1, d1⟩ := dk_of I.hok ha
  obtain ⟨z2, lo2, ys, r2, d2⟩ := dk_of I.hok hb
  refine call_meetsIn PySem.F.slot_dict_update d1.typeIs PySem.F.entry_dict_update (PySem.F.args_dict_update_2 _ _) (meets_dict_update (mixKind X.prog X.w) a b ne lo2)
    ⟨ws, ys, d1, d2, (by rw [← r1.length, ← r2.length]; exact hz), fun h' hmm _ hs => ?_⟩
  have he : ∃ q, h'.get? a = some q := let ⟨q, _, _, hq, _⟩ := hmm; ⟨q, hq⟩
  exact ⟨.non, _, d_write I (by rw [ha]; exact True.intro) hs he (dk_new (Nat.le_trans (length_mergeK ls ks) hz) lo1 (r2.merge r1) hmm), rfl, q⟩
/-! ### the dict's entries as data -/
inductive KvT (K : PySem.W.Frag) (H : Hp) : List (Key × V) → List (Str × PyData) → Prop
  | nil : KvT K H [] []
  | cons {x : Str} {v : V} {d : PyData} {ks : List (Key × V)} {kvs : List (Str × PyData)} : Dp K H v d → KvT K H ks kvs → KvT K H ((.inr x, v) :: ks) ((x, d) :: kvs)
theorem KvT.sub {K : PySem.W.Frag} {H H' : Hp} (s : Sub H H') : ∀ {ks : List (Key × V)} {kvs : List (Str × PyData)}, KvT K H ks kvs → KvT K H' ks kvs
  | _, _, .nil => .nil
  | _, _, .cons a b => .cons (s.dp a) (b.sub s)
theorem KvT.len {K : PySem.W.Frag} {H : Hp} : ∀ {ks : List (Key × V)} {kvs : List (Str × PyData)}, KvT K H ks kvs → ks.length = kvs.length
  | _, _, .nil => rfl
  | _, _, .cons _ b => congrArg (· + 1) b.len
def getT (kvs : List (Str × PyData)) (x : Str) : Option PyData := (kvs.find? fun e => decide (e.1 = x)).map (·.2)
def putT (kvs : List (Str × PyData)) (x : Str) (v : PyData) : List (Str × PyData) := if (kvs.any fun e => decide (e.1 = x)) = true then kvs.map (fun e => if e.1 = x then (e.1, v) else e) else kvs ++ [(x, v)]
def mergeT (kvs more : List (Str × PyData)) : List (Str × PyData) := more.foldl (fun acc e => putT acc e.1 e.2) kvs
section
variable {K : PySem.W.Frag} {H : Hp}
theorem inr_eq {x y : Str} : ((Sum.inr x : Key) = .inr y) ↔ x = y := ⟨fun h => by cases h; rfl, fun h => by rw [h]⟩
theorem KvT.any {x : Str} : ∀ {ks : List (Key × V)} {kvs : List (Str × PyData)}, KvT K H ks kvs → (ks.any fun e => decide (e.1 = .inr x)) = kvs.any fun e => decide (e.1 = x)
  | _, _, .nil => rfl
  | _, _, .cons (x := y) _ b => by
    rw [List.any_cons, List.any_cons, b.any]
    congr 1
    exact decide_eq_decide.mpr inr_eq
theorem KvT.get {x : Str} : ∀ {ks : List (Key × V)} {kvs : List (Str × PyData)}, KvT K H ks kvs → ∀ {d : PyData}, getT kvs x = some d → ∃ v, valV ks (.inr x) = some v ∧ Dp K H v d
  | _, _, .nil, _, h => by cases h
  | _, _, .cons (x := y) (v := v) a b, d, h => by
    by_cases e : y = x
    · subst e
      unfold getT at h
      rw [List.find?_cons_of_pos (p := fun e : Str × PyData => decide (e.1 = y)) (decide_eq_true rfl)] at h
      cases h
      refine ⟨v, ?_, a⟩
      unfold valV
      rw [List.find?_cons_of_pos (p := fun kv : Key × V => decide (kv.1 = .inr y)) (decide_eq_true rfl)]
      rfl
    · unfold getT at h
      rw [List.find?_cons_of_neg (p := fun e : Str × PyData => decide (e.1 = x)) (fun z => e (of_decide_eq_true z))] at h
      obtain ⟨w, h1, h2⟩ := b.get (d := d) h
      refine ⟨w, ?_, h2⟩
      unfold valV at h1 ⊢
      rw [List.find?_cons_of_neg (p := fun kv : Key × V => decide (kv.1 = .inr x)) (fun z => e (inr_eq.mp (of_decide_eq_true z)))]
      exact h1
theorem KvT.map {x : Str} {v : V} {d : PyData} (dv : Dp K H v d) : ∀ {ks : List (Key × V)} {kvs : List (Str × PyData)}, KvT K H ks kvs → KvT K H (ks.map fun kv => if kv.1 = .inr x then (kv.1, v) else kv) (kvs.map fun e => if e.1 = x then (e.1, d) else e)
  | _, _, .nil => .nil
  | _, _, .cons (x := y) a b => by
    rw [List.map_cons, List.map_cons]
    by_cases e : y = x
    · rw [if_pos (inr_eq.mpr e), if_pos e]
      exact .cons dv (b.map dv)
    · rw [if_neg (fun z => e (inr_eq.mp z)), if_neg e]
      exact .cons a (b.map dv)
theorem KvT.snoc {x : Str} {v : V} {d : PyData} (dv : Dp K H v d) : ∀ {ks : List (Key × V)} {kvs : List (Str × PyData)}, KvT K H ks kvs → KvT K H (ks ++ [(.inr x, v)]) (kvs ++ [(x, d)])
  | _, _, .nil => .cons dv .nil
  | _, _, .cons a b => .cons a (b.snoc dv)
theorem KvT.put {x : Str} {v : V} {d : PyData} (dv : Dp K H v d) {ks : List (Key × V)} {kvs : List (Str × PyData)} (h : KvT K H ks kvs) : KvT K H (putK ks (.inr x) v) (putT kvs x d) := by
  unfold putK putT
  rw [h.any]
  split
  · exact h.map dv
  · exact h.snoc dv
theorem KvT.merge : ∀ {ls : List (Key × V)} {more : List (Str × PyData)}, KvT K H ls more → ∀ {ks : List (Key × V)} {kvs : List (Str × PyData)}, KvT K H ks kvs → KvT K H (mergeK ks ls) (mergeT kvs more)
  | _, _, .nil, _, _, h => h
  | _, _, .cons a b, _, _, h => b.merge (h.put a)
end
def DctT (K : PySem.W.Frag) (kvs : List (Str × PyData)) (a : Addr) (o : Option HO) (H : Hp) : Prop := ∃ ks, o = some (.dK ks) ∧ KvT K H ks kvs
theorem dctT_st {K : PySem.W.Frag} {kvs : List (Str × PyData)} : ∀ a o H H', Sub H H' → DctT K kvs a o H → DctT K kvs a o H' := fun a o H H' s ⟨ks, h1, h2⟩ => ⟨ks, h1, h2.sub s⟩
theorem dctT_nl {K : PySem.W.Frag} {kvs : List (Str × PyData)} : ∀ a vs H, ¬ DctT K kvs a (some (.lst vs)) H := fun a vs H ⟨_, h1, _⟩ => by cases h1
def dctT (K : PySem.W.Frag) (kvs : List (Str × PyData)) : SV := .oo (DctT K kvs) dctT_st dctT_nl
/-! ### the pairs of a display -/
abbrev DP := DEnv → (List (Str × PyData) → Prop) → Prop
def nilP : DP := fun _ R => R []
def consP (x : Str) (f : DE) (g : DP) : DP := fun ρ R => f ρ fun d => g ρ fun r => R ((x, d) :: r)
def tPP (C : Cc) (κ : Nat) (g : DP) (σ : L2.St) (H : Hp) (Q : List (Key × V) → Hp → Prop) : Prop := ∃ F ρ R, Rel C κ F σ H ρ ∧ g ρ R ∧ ∀ kvs, R kvs → ∀ ks H', Ev C.b κ F H H' → KvT C.b.K (hide H' F) ks kvs → Q ks H'
structure PDP (X : Cx) (C : Cc) (κ : Nat) (pos : Pos) (keys : List (Option Expr)) (values : List Expr) (g : DP) : Prop where
  ex : ∃ trs, PPs X pos keys values trs ∧ ∀ (σ : L2.St) (H : Hp) (Q : List (V × V) → Hp → Prop), tPP C κ g σ H (fun ks H2 => ks.length = keys.length → Q (ks.map fun kv => (kV kv.1, kv.2)) H2) → tPairs trs σ H Q
section
variable {X : Cx} {C : Cc} {pos pos' : Pos} {κ κ' : Nat} {keys : List (Option Expr)} {values : List Expr} {f : DE} {g : DP}
theorem pp_nil : PDP X C 0 pos [] [] nilP := ⟨[], pps_nil, fun σ H Q ⟨F, ρ, R, rel, hg, q⟩ => q [] hg [] H (Ev.refl rel.hk) .nil rfl⟩
theorem pp_cons {x : Str} {k v : Expr} (hk : PE X k (tC (.str x))) (hv : PD X C κ v f) (hr : PDP X C κ' pos keys values g) : PDP X C (κ + κ') pos (some k :: keys) (v :: values) (consP x f g) := by
  obtain ⟨trs, h1, h2⟩ := hr.ex
  refine ⟨_, pps_cons hk hv h1, fun σ H Q ⟨F, ρ, R, rel, hg, q⟩ => ?_⟩
  show tD C κ f σ H _
  refine ⟨F, ρ, _, rel.lel, hg, fun d hd v H1 e1 dv => h2 σ H1 _ ⟨F, ρ, _, Rel.ev rel e1, hd, fun kvs hR ks H2 e2 kv hl => ?_⟩⟩
  exact q _ hR ((.inr x, v) :: ks) H2 (e1.trans e2) (.cons (e2.dp e1.hk dv) kv) (by rw [List.length_cons, List.length_cons, hl])
/-- a new dict as a value: its entries -/
def tDn (C : Cc) (κ : Nat) (g : DP) : TE := fun σ H Q => ∃ F ρ R, Rel C κ F σ H ρ ∧ g ρ R ∧ ∀ kvs, R kvs → ∀ ks H' p, Ev C.b κ F H H' → KvT C.b.K (hide H' F) ks kvs → ks.length ≤ 15 → H' p = none → Q (.ref p) (upd H' p (.dK (mergeK [] ks)))
theorem pe_dn (h : PDP X C κ pos keys values g) (hall : keys.all (·.isSome) = true) (hl : keys.length = values.length) (h0 : keys ≠ []) (h15 : keys.length ≤ 15) : PE X (.Dict keys values pos) (tDn C κ g) := by
  obtain ⟨trs, h1, h2⟩ := h.ex
  refine pe_mono (pe_dispL h1 hall hl h0 h15) fun σ H Q ⟨F, ρ, R, rel, hg, q⟩ => h2 σ H _ ⟨F, ρ, R, rel, hg, fun kvs hR ks H' ev kv hlen => ?_⟩
  exact ⟨ks, rfl, by omega, fun p hp => q kvs hR ks H' p ev kv (by omega) hp⟩
/-- x = {..} -/
def dispT (P : Program) (w : World) (K : PySem.W.Frag) (i : Nat) (g : DP) : DS := fun N ρ => g ρ fun kvs => N.nx (ρ.set i (some (dctT K (mergeT [] kvs))))
theorem s_dispT {i : Nat} {tg : Expr} (hd : PE X (.Dict keys values pos) (tDn C κ g)) (hg : PG X tg (gName i)) (hK : C.b.K = X.K := by rfl) (hs : swapsWithSole [tg] (.Dict keys values pos) pos'.line X.env = pure false := by rfl) (hw : swappedStores [tg] (.Dict keys values pos) X.env = pure none := by rfl) (h1 : (assignEach [tg] X.env).map (·.2) = [assign tg X.env] := by rfl) :
    PDS X C κ (.Assign [tg] (.Dict keys values pos) pos') (dispT X.prog X.w X.K i g) :=
  ps_mono (ps_asg hd hg hs hw h1) fun D σ H ⟨k, F, ρ, N, rel, ht, gd⟩ => by
    refine ⟨F, ρ, _, rel.lel, ht, fun kvs hR ks H' p ev kv hl hp => ?_⟩
    have rel1 : Rel C k F σ H' ρ := Rel.ev rel ev
    refine gd.nx _ hR _ _ _ (rel_newO i rel1 hp (fun _ z => by cases z) (.inr (.inr ⟨_, rfl⟩)) ⟨_, rfl, ?_⟩)
    rw [← hK]
    exact (kv.sub (sub_holdO hp)).merge .nil
/-- x.update({..}) -/
def updT (P : Program) (w : World) (K : PySem.W.Frag) (i : Nat) (g : DP) : DS := fun N ρ => ∃ kvs0, ρ[i]? = some (some (dctT K kvs0)) ∧ kvs0.length ≤ 1000 ∧ g ρ fun kvs => N.nx (ρ.set i (some (dctT K (mergeT kvs0 (mergeT [] kvs)))))
theorem s_updT {i : Nat} {x : Expr} {p2 : Pos} (hx : PE X x (tVar i)) (hd : PE X (.Dict keys values pos) (tDn C κ g)) (hb : PE X x (tVar i) → PA X [.Dict keys values pos] (tCons (tDn C κ g) tNil) → PE X (.Call (.Attribute x "update" p2) [.Dict keys values pos] [] pos') (tBM X.K "dict" rUpd (tVar i) (tCons (tDn C κ g) tNil)) := by exact fun h1 h2 => pe_bm PySem.F.plainAttrs_dict PySem.F.slot_dict_update PySem.F.type_dict_update mt_upd h1 h2)
    (hK : C.b.K = X.K := by rfl) (hst : starEach [.Dict keys values pos] X.env = (false, eval (.Dict keys values pos) X.env) :: starEach [] X.env := by rfl) {q : Pos} (hs : swapsWith (.Call (.Attribute x "update" p2) [.Dict keys values pos] [] pos') none q.line X.env = pure false := by rfl) : PDS X C κ (.Expr (.Call (.Attribute x "update" p2) [.Dict keys values pos] [] pos') q) (updT X.prog X.w X.K i g) :=
  ps_mono (ps_expr (hb hx (pa_cons hd pa_nil hst)) hs) fun D σ H ⟨k, F, ρ, N, rel, ⟨kvs0, hi, hl0, ht⟩, gd⟩ => by
    obtain ⟨a, y, mF, ⟨ks0, ek, kv0⟩, up⟩ := rel_updO rel hi
    refine ⟨.ref a, y, .inr (.inr (.inl ⟨rfl, .inl ⟨_, ek⟩⟩)), F, ρ, _, rel.lel, ht, fun kvs hR ks H' p ev kv hl hp => ?_⟩
    have rel1 : Rel C k F σ H' ρ := Rel.ev rel ev
    have ev2 : Ev C.b 0 F H' (upd H' p (.dK (mergeK [] ks))) := Ev.new rel1.hk hp fun _ z => by cases z
    have rel2 := rel1.ev0 ev2
    obtain ⟨a', y', mF', ⟨ks1, ek1, kv1⟩, up'⟩ := rel_updO rel2 hi
    rw [y] at y'
    cases y'
    have nap : a ≠ p := fun z => new_out rel1.hk hp (z ▸ mF)
    have lm := length_mergeK ks []
    rw [List.length_nil] at lm
    refine ⟨a, p, ks1, _, rfl, rfl, nap, ek1, upd_same, by rw [kv1.len, sizeLine_eq]; omega, gd.nx _ hR _ _ _ (up' (.dK (mergeK ks1 (mergeK [] ks))) (DctT X.K (mergeT kvs0 (mergeT [] kvs))) dctT_st dctT_nl (fun _ z => by cases z) (.inr (.inr ⟨_, rfl⟩)) ⟨_, rfl, ?_⟩)⟩
    have s2 := sub_putO (o := .dK (mergeK ks1 (mergeK [] ks))) (H := upd H' p (.dK (mergeK [] ks))) mF'
    rw [← hK] at kv1 ⊢
    exact KvT.merge (KvT.merge ((kv.sub (ev2.sub rel1.hk)).sub s2) .nil) (kv1.sub s2)
/-- x['a'] = e -/
def setT (P : Program) (w : World) (K : PySem.W.Frag) (i : Nat) (x : Str) (fv : DE) : DS := fun N ρ => ∃ kvs, ρ[i]? = some (some (dctT K kvs)) ∧ kvs.length ≤ 1000 ∧ fv ρ fun v => N.nx (ρ.set i (some (dctT K (putT kvs x v))))
theorem s_setT {i j : Nat} {o ke ve : Expr} {x : Str} {fv : DE} (hr : Room j X.A) (ho : PE X o (tVar i)) (hk : PE X ke (tC (.str x))) (hv : PD X C κ ve fv) (hK : C.b.K = X.K := by rfl)
    (hs : swapsWith ve (some (.Subscript o ke pos)) pos'.line X.env = pure false := by rfl) : PDS X C κ (.Assign [.Subscript o ke pos] ve pos') (setT X.prog X.w X.K i x fv) :=
  ps_mono (ps_dput (by have := hr.un; omega) ho hk hv hs) fun D σ H ⟨k, F, ρ, N, rel, ⟨kvs, hi, hl, ht⟩, gd⟩ => by
    refine ⟨F, ρ, _, rel.lel, ht, fun vd hvd v H1 e1 dv => ?_⟩
    have rel1 : Rel C k F σ H1 ρ := Rel.ev rel e1
    obtain ⟨a, y, mF, ⟨ks, ek, kv⟩, up⟩ := rel_updO rel1 hi
    refine ⟨.ref a, y, a, _, rfl, .inl ⟨ks, .inr x, ek, rfl, by rw [kv.len, sizeLine_eq]; omega, rfl⟩, gd.nx _ hvd _ _ _ (up _ (DctT X.K (putT kvs x vd)) dctT_st dctT_nl (fun _ z => by cases z) (.inr (.inr ⟨_, rfl⟩)) ⟨_, rfl, ?_⟩)⟩
    have s2 := sub_putO (o := .dK (putK ks (.inr x) v)) (H := H1) mF
    rw [← hK] at kv ⊢
    exact (kv.sub s2).put (s2.dp dv)
/-- x[k] -/
def ixT (P : Program) (w : World) (K : PySem.W.Frag) (i : Nat) (fk : DE) : DE := fun ρ R => ∃ kvs, ρ[i]? = some (some (dctT K kvs)) ∧ fk ρ fun k => onS k fun x => onO (getT kvs x) R
theorem d_ixT {i j : Nat} {a b : Expr} (hr : Room j X.A) (ha : PE X a (tVar i)) (hb : PD X C κ b f) (hs : NoSl b) (hK : C.b.K = X.K := by rfl) : PD X C κ (.Subscript a b pos) (ixT X.prog X.w X.K i f) :=
  pe_mono (pe_dget (by have := hr.un; omega) ha hb hs) fun σ H Q ⟨F, ρ, R, rel, ⟨kvs, hi, hf⟩, q⟩ => by
    obtain ⟨a, y, mF, ph, up⟩ := rel_updO rel hi
    refine ⟨.ref a, y, F, ρ, _, rel, hf, fun kd hd v H1 e1 dy => ?_⟩
    obtain ⟨x, rfl, hd⟩ := onS_ok hd
    obtain ⟨vd, hv, hR⟩ := onO_ok hd
    obtain ⟨a', y', mF', ⟨ks, ek, kv⟩, _⟩ := rel_updO (Rel.ev (κ' := 0) rel e1) hi
    rw [y] at y'
    cases y'
    cases dy
    obtain ⟨w, hw, dw⟩ := kv.get hv
    exact ⟨a, w, rfl, .inl ⟨ks, .inr x, .inl ek, rfl, hw.symm⟩, q _ hR _ H1 e1 (hK ▸ dw)⟩
end
section
variable {P : Program} {w : World} {K : PySem.W.Frag} {i : Nat} {ρ : DEnv} {N : DEnds} {g : DP} {f : DE} {x : Str} {kvs : List (Str × PyData)} {R : PyData → Prop} {Rp : List (Str × PyData) → Prop}
theorem i_dispT (h : g ρ fun kvs => N.nx (ρ.set i (some (dctT K (mergeT [] kvs))))) : dispT P w K i g N ρ := h
theorem i_updT (e : ρ[i]? = some (some (dctT K kvs))) (l : kvs.length ≤ 1000) (h : g ρ fun more => N.nx (ρ.set i (some (dctT K (mergeT kvs (mergeT [] more)))))) : updT P w K i g N ρ := ⟨kvs, e, l, h⟩
theorem i_setT (e : ρ[i]? = some (some (dctT K kvs))) (l : kvs.length ≤ 1000) (h : f ρ fun v => N.nx (ρ.set i (some (dctT K (putT kvs x v))))) : setT P w K i x f N ρ := ⟨kvs, e, l, h⟩
theorem i_ixT (e : ρ[i]? = some (some (dctT K kvs))) (h : f ρ fun k => onS k fun x => onO (getT kvs x) R) : ixT P w K i f ρ R := ⟨kvs, e, h⟩
theorem i_nilP (h : Rp []) : nilP ρ Rp := h
theorem i_consP (h : f ρ fun d => g ρ fun r => Rp ((x, d) :: r)) : consP x f g ρ Rp := h
end
/-! ### what stands in such a dict -/
theorem putT_mem {kvs : List (Str × PyData)} {x : Str} {v : PyData} {e : Str × PyData} (h : e ∈ putT kvs x v) : e ∈ kvs ∨ e.2 = v := by
  unfold putT at h
  split at h
  · obtain ⟨e', m, q⟩ := List.mem_map.mp h
    split at q
    · exact .inr (by rw [← q])
    · exact .inl (q ▸ m)
  · rcases List.mem_append.mp h with h | h
    · exact .inl h
    · exact .inr (by rw [List.mem_singleton.mp h])
theorem putT_keys {kvs : List (Str × PyData)} {x y : Str} {v : PyData} (h : y = x ∨ y ∈ kvs.map (·.1)) : y ∈ (putT kvs x v).map (·.1) := by
  unfold putT
  split
  · next a =>
    have e : (kvs.map fun e => if e.1 = x then (e.1, v) else e).map (·.1) = kvs.map (·.1) := by
      rw [List.map_map]
      refine List.map_congr_left fun e _ => ?_
      show (if e.1 = x then (e.1, v) else e).1 = e.1
      split <;> rfl
    rw [e]
    rcases h with rfl | h
    · obtain ⟨e, m, q⟩ := List.any_eq_true.mp a
      exact List.mem_map.mpr ⟨e, m, of_decide_eq_true q⟩
    · exact h
  · rw [List.map_append, List.mem_append]
    rcases h with rfl | h
    · exact .inr (List.mem_singleton.mpr rfl)
    · exact .inl h
theorem putT_len {kvs : List (Str × PyData)} {x : Str} {v : PyData} : (putT kvs x v).length ≤ kvs.length + 1 := by
  unfold putT
  split
  · rw [List.length_map]; omega
  · rw [List.length_append]; exact Nat.le_refl _
structure TvOk (Pv : PyData → Prop) (n : Nat) (ns : List Str) (kvs : List (Str × PyData)) : Prop where
  keys : ∀ x ∈ ns, x ∈ kvs.map (·.1)
  vals : ∀ e ∈ kvs, Pv e.2
  len : kvs.length ≤ n
section
variable {Pv : PyData → Prop} {n m : Nat} {ns ms : List Str} {kvs more : List (Str × PyData)} {x : Str} {v : PyData}
theorem TvOk.nil : TvOk Pv 0 [] [] := ⟨fun _ m => (nomatch m), fun _ m => (nomatch m), Nat.le_refl _⟩
theorem TvOk.put (h : TvOk Pv n ns kvs) (hv : Pv v) : TvOk Pv (n + 1) (x :: ns) (putT kvs x v) :=
  ⟨fun y my => putT_keys ((List.mem_cons.mp my).imp_right fun q => h.keys y q), fun e me => (putT_mem me).elim (fun q => h.vals e q) fun q => q ▸ hv, by have := @putT_len kvs x v; have := h.len; omega⟩
theorem TvOk.pair (h : TvOk Pv n ns kvs) (hv : Pv v) : TvOk Pv (n + 1) (x :: ns) ((x, v) :: kvs) :=
  ⟨fun y my => by rw [List.map_cons, List.mem_cons]; exact (List.mem_cons.mp my).imp_right fun q => h.keys y q, fun e me => (List.mem_cons.mp me).elim (fun q => by rw [q]; exact hv) (h.vals e), by rw [List.length_cons]; have := h.len; omega⟩
theorem merge_ok : ∀ {more : List (Str × PyData)} {kvs : List (Str × PyData)}, (∀ e ∈ more, Pv e.2) → (∀ e ∈ kvs, Pv e.2) → (∀ y, (y ∈ more.map (·.1) ∨ y ∈ kvs.map (·.1)) → y ∈ (mergeT kvs more).map (·.1)) ∧ (∀ e ∈ mergeT kvs more, Pv e.2) ∧ (mergeT kvs more).length ≤ kvs.length + more.length
  | [], kvs, _, h => ⟨fun y q => q.elim (fun z => (nomatch z)) id, h, Nat.le_refl _⟩
  | p :: r, kvs, hm, h => by
    obtain ⟨a, b, c⟩ := merge_ok (more := r) (kvs := putT kvs p.1 p.2) (fun e me => hm e (List.mem_cons_of_mem _ me)) fun e me => (putT_mem me).elim (h e) fun q => q ▸ hm p (List.mem_cons_self ..)
    refine ⟨fun y q => a y ?_, b, ?_⟩
    · rcases q with q | q
      · rw [List.map_cons, List.mem_cons] at q
        rcases q with q | q
        · exact .inr (putT_keys (.inl q))
        · exact .inl q
      · exact .inr (putT_keys (.inr q))
    · have := @putT_len kvs p.1 p.2
      show (mergeT (putT kvs p.1 p.2) r).length ≤ _
      rw [List.length_cons]; omega
theorem TvOk.merge (h : TvOk Pv n ns kvs) (hm : TvOk Pv m ms more) : TvOk Pv (n + m) (ms ++ ns) (mergeT kvs more) := by
  obtain ⟨a, b, c⟩ := merge_ok hm.vals h.vals
  exact ⟨fun y my => a y ((List.mem_append.mp my).imp (hm.keys y) (h.keys y)), b, by have := h.len; have := hm.len; omega⟩
theorem TvOk.get (h : TvOk Pv n ns kvs) (m : x ∈ ns) : ∃ v, getT kvs x = some v ∧ Pv v := by
  obtain ⟨e, me, q⟩ := List.mem_map.mp (h.keys x m)
  unfold getT
  cases f : kvs.find? fun e => decide (e.1 = x) with
  | none => exact absurd (decide_eq_true q) (List.find?_eq_none.mp f e me)
  | some e' => exact ⟨e'.2, rfl, h.vals e' (List.mem_of_find?_eq_some f)⟩
theorem i_getT {R : PyData → Prop} (h : TvOk Pv n ns kvs) (m : x ∈ ns) (q : ∀ v, Pv v → R v) : onO (getT kvs x) R := by
  obtain ⟨v, e, p⟩ := h.get m
  rw [e]
  exact q v p
end
end DL

namespace K62
open PySem PySem.Spec PyProof.Rows L2 GX DL
def topS (i : Nat) : Stmt := PySem.Challenge.pw_gonemarks_k62_what_is_a_deed.main.body.getD i (.Pass ⟨0, 0, 0, 0⟩)
abbrev s1 : Stmt := topS 1
abbrev s2 : Stmt := topS 2
abbrev s3 : Stmt := topS 3
abbrev s4 : Stmt := topS 4
abbrev s5 : Stmt := topS 5
abbrev s6 : Stmt := topS 6
abbrev s7 : Stmt := topS 7
abbrev s10 : Stmt := topS 10
abbrev s11 : Stmt := topS 11
abbrev s12 : Stmt := topS 12
abbrev s13 : Stmt := topS 13
abbrev s15 : Stmt := topS 15
abbrev s16 : Stmt := topS 16
abbrev s18 : Stmt := topS 18
abbrev s19 : Stmt := topS 19
abbrev s20 : Stmt := topS 20
abbrev s21 : Stmt := topS 21
abbrev s23 : Stmt := topS 23
abbrev s24 : Stmt := topS 24
abbrev s25 : Stmt := topS 25
abbrev s26 : Stmt := topS 26
abbrev s27 : Stmt := topS 27
abbrev s28 : Stmt := topS 28
abbrev s29 : Stmt := topS 29
abbrev s30 : Stmt := topS 30
abbrev s31 : Stmt := topS 31
abbrev s32 : Stmt := topS 32
abbrev s33 : Stmt := topS 33
abbrev s34 : Stmt := topS 34
abbrev s35 : Stmt := topS 35
abbrev s36 : Stmt := topS 36
abbrev s37 : Stmt := topS 37
abbrev s38 : Stmt := topS 38
abbrev s39 : Stmt := topS 39
abbrev s40 : Stmt := topS 40
abbrev s41 : Stmt := topS 41
abbrev s42 : Stmt := topS 42
abbrev FnP (K : PySem.W.Frag) (x : Str) (st : Stmt) (f : Addr) (fd : FuncData) : Prop := FunD K x x (defArgs st) (defBody st) (defScope st) [] [] f fd
structure Fx (K : PySem.W.Frag) (mg : Str → Option Value) (base : Heap) (Ts : List Addr) (fa : Nat → Addr) (fdd : Nat → FuncData) (ca ta : Nat → Addr) : Prop where
  F1 : FnP K "is_whole" s1 (fa 1) (fdd 1)
  g1 : mg "is_whole" = some (.ref (fa 1))
  c1 : (fdd 1).code = .ref (ca 1)
  F2 : FnP K "is_from" s2 (fa 2) (fdd 2)
  g2 : mg "is_from" = some (.ref (fa 2))
  c2 : (fdd 2).code = .ref (ca 2)
  F3 : FnP K "is_between" s3 (fa 3) (fdd 3)
  g3 : mg "is_between" = some (.ref (fa 3))
  c3 : (fdd 3).code = .ref (ca 3)
  F4 : FnP K "is_m" s4 (fa 4) (fdd 4)
  g4 : mg "is_m" = some (.ref (fa 4))
  c4 : (fdd 4).code = .ref (ca 4)
  F5 : FnP K "is_row" s5 (fa 5) (fdd 5)
  g5 : mg "is_row" = some (.ref (fa 5))
  c5 : (fdd 5).code = .ref (ca 5)
  F6 : FnP K "rise" s6 (fa 6) (fdd 6)
  g6 : mg "rise" = some (.ref (fa 6))
  c6 : (fdd 6).code = .ref (ca 6)
  TB6 : GxR.TabB base mg (ca 6) (ta 6)
  hP6 : ta 6 ∈ Ts
  F7 : FnP K "are_rows" s7 (fa 7) (fdd 7)
  g7 : mg "are_rows" = some (.ref (fa 7))
  c7 : (fdd 7).code = .ref (ca 7)
  TB7 : GxR.TabB base mg (ca 7) (ta 7)
  hP7 : ta 7 ∈ Ts
  F10 : FnP K "is_seat" s10 (fa 10) (fdd 10)
  g10 : mg "is_seat" = some (.ref (fa 10))
  c10 : (fdd 10).code = .ref (ca 10)
  TB10 : GxR.TabB base mg (ca 10) (ta 10)
  hP10 : ta 10 ∈ Ts
  F11 : FnP K "is_dot" s11 (fa 11) (fdd 11)
  g11 : mg "is_dot" = some (.ref (fa 11))
  c11 : (fdd 11).code = .ref (ca 11)
  F12 : FnP K "is_name" s12 (fa 12) (fdd 12)
  g12 : mg "is_name" = some (.ref (fa 12))
  c12 : (fdd 12).code = .ref (ca 12)
  TB12 : GxR.TabB base mg (ca 12) (ta 12)
  hP12 : ta 12 ∈ Ts
  F13 : FnP K "is_thing" s13 (fa 13) (fdd 13)
  g13 : mg "is_thing" = some (.ref (fa 13))
  c13 : (fdd 13).code = .ref (ca 13)
  F15 : FnP K "is_paper_row" s15 (fa 15) (fdd 15)
  g15 : mg "is_paper_row" = some (.ref (fa 15))
  c15 : (fdd 15).code = .ref (ca 15)
  F16 : FnP K "is_paper" s16 (fa 16) (fdd 16)
  g16 : mg "is_paper" = some (.ref (fa 16))
  c16 : (fdd 16).code = .ref (ca 16)
  F18 : FnP K "are_dots" s18 (fa 18) (fdd 18)
  g18 : mg "are_dots" = some (.ref (fa 18))
  c18 : (fdd 18).code = .ref (ca 18)
  TB18 : GxR.TabB base mg (ca 18) (ta 18)
  hP18 : ta 18 ∈ Ts
  F19 : FnP K "names_letter" s19 (fa 19) (fdd 19)
  g19 : mg "names_letter" = some (.ref (fa 19))
  c19 : (fdd 19).code = .ref (ca 19)
  F20 : FnP K "is_what" s20 (fa 20) (fdd 20)
  g20 : mg "is_what" = some (.ref (fa 20))
  c20 : (fdd 20).code = .ref (ca 20)
  F21 : FnP K "is_deed" s21 (fa 21) (fdd 21)
  g21 : mg "is_deed" = some (.ref (fa 21))
  c21 : (fdd 21).code = .ref (ca 21)
  F23 : FnP K "_law_feed" s23 (fa 23) (fdd 23)
  g23 : mg "_law_feed" = some (.ref (fa 23))
  c23 : (fdd 23).code = .ref (ca 23)
  F24 : FnP K "_law_next" s24 (fa 24) (fdd 24)
  g24 : mg "_law_next" = some (.ref (fa 24))
  c24 : (fdd 24).code = .ref (ca 24)
  F25 : FnP K "_law_is_whole" s25 (fa 25) (fdd 25)
  g25 : mg "_law_is_whole" = some (.ref (fa 25))
  c25 : (fdd 25).code = .ref (ca 25)
  F26 : FnP K "_law_is_seat" s26 (fa 26) (fdd 26)
  g26 : mg "_law_is_seat" = some (.ref (fa 26))
  c26 : (fdd 26).code = .ref (ca 26)
  F27 : FnP K "_law_is_dot" s27 (fa 27) (fdd 27)
  g27 : mg "_law_is_dot" = some (.ref (fa 27))
  c27 : (fdd 27).code = .ref (ca 27)
  F28 : FnP K "_law_is_name" s28 (fa 28) (fdd 28)
  g28 : mg "_law_is_name" = some (.ref (fa 28))
  c28 : (fdd 28).code = .ref (ca 28)
  F29 : FnP K "_law_is_thing" s29 (fa 29) (fdd 29)
  g29 : mg "_law_is_thing" = some (.ref (fa 29))
  c29 : (fdd 29).code = .ref (ca 29)
  F30 : FnP K "_law_is_m" s30 (fa 30) (fdd 30)
  g30 : mg "_law_is_m" = some (.ref (fa 30))
  c30 : (fdd 30).code = .ref (ca 30)
  F31 : FnP K "_law_are_rising" s31 (fa 31) (fdd 31)
  g31 : mg "_law_are_rising" = some (.ref (fa 31))
  c31 : (fdd 31).code = .ref (ca 31)
  F32 : FnP K "_law_any_seat" s32 (fa 32) (fdd 32)
  g32 : mg "_law_any_seat" = some (.ref (fa 32))
  c32 : (fdd 32).code = .ref (ca 32)
  F33 : FnP K "_law_any_m" s33 (fa 33) (fdd 33)
  g33 : mg "_law_any_m" = some (.ref (fa 33))
  c33 : (fdd 33).code = .ref (ca 33)
  F34 : FnP K "_law_any_dots" s34 (fa 34) (fdd 34)
  g34 : mg "_law_any_dots" = some (.ref (fa 34))
  c34 : (fdd 34).code = .ref (ca 34)
  F35 : FnP K "_law_any_thing" s35 (fa 35) (fdd 35)
  g35 : mg "_law_any_thing" = some (.ref (fa 35))
  c35 : (fdd 35).code = .ref (ca 35)
  F36 : FnP K "_law_bent" s36 (fa 36) (fdd 36)
  g36 : mg "_law_bent" = some (.ref (fa 36))
  c36 : (fdd 36).code = .ref (ca 36)
  F37 : FnP K "_law_is_paper" s37 (fa 37) (fdd 37)
  g37 : mg "_law_is_paper" = some (.ref (fa 37))
  c37 : (fdd 37).code = .ref (ca 37)
  F38 : FnP K "_law_is_rest" s38 (fa 38) (fdd 38)
  g38 : mg "_law_is_rest" = some (.ref (fa 38))
  c38 : (fdd 38).code = .ref (ca 38)
  F39 : FnP K "_law_is_deed" s39 (fa 39) (fdd 39)
  g39 : mg "_law_is_deed" = some (.ref (fa 39))
  c39 : (fdd 39).code = .ref (ca 39)
  F40 : FnP K "_law_any_paper" s40 (fa 40) (fdd 40)
  g40 : mg "_law_any_paper" = some (.ref (fa 40))
  c40 : (fdd 40).code = .ref (ca 40)
  F41 : FnP K "_law_any_deed" s41 (fa 41) (fdd 41)
  g41 : mg "_law_any_deed" = some (.ref (fa 41))
  c41 : (fdd 41).code = .ref (ca 41)
  F42 : FnP K "law" s42 (fa 42) (fdd 42)
  g42 : mg "law" = some (.ref (fa 42))
  c42 : (fdd 42).code = .ref (ca 42)
  b_all : mg "all" = none
  b_bool : mg "bool" = none
  b_int : mg "int" = none
  b_isinstance : mg "isinstance" = none
  b_len : mg "len" = none
  b_list : mg "list" = none
  b_range : mg "range" = none
  b_repr : mg "repr" = none
  b_sorted : mg "sorted" = none
  b_str : mg "str" = none
  b_tuple : mg "tuple" = none
  k_SMALL_LETTERS : ∃ t, mg "SMALL_LETTERS" = some (.str "abcdefghijklmnopqrstuvwxyz" t)
section
variable {P : Program} {w : World} {K : PySem.W.Frag} {mg : Str → Option Value} {base : Heap} {Ts : List Addr} {fa : Nat → Addr} {fdd : Nat → FuncData} {ca ta : Nat → Addr} {g : Option Addr} {sa ga : Addr} {n0 : Int} {ns : List Int}
abbrev N1 : List Str := ["thing"]
abbrev p1 : List Str := ["thing"]
theorem sc1 : FnScope N1 p1 (defScope s1) := ⟨rfl, rfl, rfl, by decide +kernel, rfl, by decide +kernel, by decide +kernel⟩
theorem Fx.b1 (Z : Fx K mg base Ts fa fdd ca ta) : Binds K (fdd 1) p1 [] := Z.F1.bindsN fun _ _ _ _ _ _ us hl => match us, hl with | [_], _ => rfl
abbrev N2 : List Str := ["thing", "least"]
abbrev p2 : List Str := ["thing", "least"]
theorem sc2 : FnScope N2 p2 (defScope s2) := ⟨rfl, rfl, rfl, by decide +kernel, rfl, by decide +kernel, by decide +kernel⟩
theorem Fx.b2 (Z : Fx K mg base Ts fa fdd ca ta) : Binds K (fdd 2) p2 [] := Z.F2.bindsN fun _ _ _ _ _ _ us hl => match us, hl with | [_, _], _ => rfl
abbrev N3 : List Str := ["thing", "least", "most"]
abbrev p3 : List Str := ["thing", "least", "most"]
theorem sc3 : FnScope N3 p3 (defScope s3) := ⟨rfl, rfl, rfl, by decide +kernel, rfl, by decide +kernel, by decide +kernel⟩
theorem Fx.b3 (Z : Fx K mg base Ts fa fdd ca ta) : Binds K (fdd 3) p3 [] := Z.F3.bindsN fun _ _ _ _ _ _ us hl => match us, hl with | [_, _, _], _ => rfl
abbrev N4 : List Str := ["thing", "seat"]
abbrev p4 : List Str := ["thing", "seat"]
theorem sc4 : FnScope N4 p4 (defScope s4) := ⟨rfl, rfl, rfl, by decide +kernel, rfl, by decide +kernel, by decide +kernel⟩
theorem Fx.b4 (Z : Fx K mg base Ts fa fdd ca ta) : Binds K (fdd 4) p4 [] := Z.F4.bindsN fun _ _ _ _ _ _ us hl => match us, hl with | [_, _], _ => rfl
abbrev N5 : List Str := ["thing", "size"]
abbrev p5 : List Str := ["thing", "size"]
theorem sc5 : FnScope N5 p5 (defScope s5) := ⟨rfl, rfl, rfl, by decide +kernel, rfl, by decide +kernel, by decide +kernel⟩
theorem Fx.b5 (Z : Fx K mg base Ts fa fdd ca ta) : Binds K (fdd 5) p5 [] := Z.F5.bindsN fun _ _ _ _ _ _ us hl => match us, hl with | [_, _], _ => rfl
abbrev N6 : List Str := ["items", "k"]
abbrev p6 : List Str := ["items"]
theorem sc6 : FnScope N6 p6 (defScope s6) := ⟨rfl, rfl, rfl, by decide +kernel, rfl, by decide +kernel, by decide +kernel⟩
theorem Fx.b6 (Z : Fx K mg base Ts fa fdd ca ta) : Binds K (fdd 6) p6 [] := Z.F6.bindsN fun _ _ _ _ _ _ us hl => match us, hl with | [_], _ => rfl
abbrev N7 : List Str := ["thing", "is_one", "row"]
abbrev p7 : List Str := ["thing", "is_one"]
theorem sc7 : FnScope N7 p7 (defScope s7) := ⟨rfl, rfl, rfl, by decide +kernel, rfl, by decide +kernel, by decide +kernel⟩
theorem Fx.b7 (Z : Fx K mg base Ts fa fdd ca ta) : Binds K (fdd 7) p7 [] := Z.F7.bindsN fun _ _ _ _ _ _ us hl => match us, hl with | [_, _], _ => rfl
abbrev N10 : List Str := ["thing", "number"]
abbrev p10 : List Str := ["thing"]
theorem sc10 : FnScope N10 p10 (defScope s10) := ⟨rfl, rfl, rfl, by decide +kernel, rfl, by decide +kernel, by decide +kernel⟩
theorem Fx.b10 (Z : Fx K mg base Ts fa fdd ca ta) : Binds K (fdd 10) p10 [] := Z.F10.bindsN fun _ _ _ _ _ _ us hl => match us, hl with | [_], _ => rfl
abbrev N11 : List Str := ["thing"]
abbrev p11 : List Str := ["thing"]
theorem sc11 : FnScope N11 p11 (defScope s11) := ⟨rfl, rfl, rfl, by decide +kernel, rfl, by decide +kernel, by decide +kernel⟩
theorem Fx.b11 (Z : Fx K mg base Ts fa fdd ca ta) : Binds K (fdd 11) p11 [] := Z.F11.bindsN fun _ _ _ _ _ _ us hl => match us, hl with | [_], _ => rfl
abbrev N12 : List Str := ["thing", "sign"]
abbrev p12 : List Str := ["thing"]
theorem sc12 : FnScope N12 p12 (defScope s12) := ⟨rfl, rfl, rfl, by decide +kernel, rfl, by decide +kernel, by decide +kernel⟩
theorem Fx.b12 (Z : Fx K mg base Ts fa fdd ca ta) : Binds K (fdd 12) p12 [] := Z.F12.bindsN fun _ _ _ _ _ _ us hl => match us, hl with | [_], _ => rfl
abbrev N13 : List Str := ["thing", "within", "name", "value"]
abbrev p13 : List Str := ["thing"]
theorem sc13 : FnScope N13 p13 (defScope s13) := ⟨rfl, rfl, rfl, by decide +kernel, rfl, by decide +kernel, by decide +kernel⟩
theorem Fx.b13 (Z : Fx K mg base Ts fa fdd ca ta) : Binds K (fdd 13) p13 [] := Z.F13.bindsN fun _ _ _ _ _ _ us hl => match us, hl with | [_], _ => rfl
abbrev N15 : List Str := ["thing", "seat", "word", "n", "m"]
abbrev p15 : List Str := ["thing"]
theorem sc15 : FnScope N15 p15 (defScope s15) := ⟨rfl, rfl, rfl, by decide +kernel, rfl, by decide +kernel, by decide +kernel⟩
theorem Fx.b15 (Z : Fx K mg base Ts fa fdd ca ta) : Binds K (fdd 15) p15 [] := Z.F15.bindsN fun _ _ _ _ _ _ us hl => match us, hl with | [_], _ => rfl
abbrev N16 : List Str := ["thing"]
abbrev p16 : List Str := ["thing"]
theorem sc16 : FnScope N16 p16 (defScope s16) := ⟨rfl, rfl, rfl, by decide +kernel, rfl, by decide +kernel, by decide +kernel⟩
theorem Fx.b16 (Z : Fx K mg base Ts fa fdd ca ta) : Binds K (fdd 16) p16 [] := Z.F16.bindsN fun _ _ _ _ _ _ us hl => match us, hl with | [_], _ => rfl
abbrev N18 : List Str := ["thing", "dot"]
abbrev p18 : List Str := ["thing"]
theorem sc18 : FnScope N18 p18 (defScope s18) := ⟨rfl, rfl, rfl, by decide +kernel, rfl, by decide +kernel, by decide +kernel⟩
theorem Fx.b18 (Z : Fx K mg base Ts fa fdd ca ta) : Binds K (fdd 18) p18 [] := Z.F18.bindsN fun _ _ _ _ _ _ us hl => match us, hl with | [_], _ => rfl
abbrev N19 : List Str := ["thing"]
abbrev p19 : List Str := ["thing"]
theorem sc19 : FnScope N19 p19 (defScope s19) := ⟨rfl, rfl, rfl, by decide +kernel, rfl, by decide +kernel, by decide +kernel⟩
theorem Fx.b19 (Z : Fx K mg base Ts fa fdd ca ta) : Binds K (fdd 19) p19 [] := Z.F19.bindsN fun _ _ _ _ _ _ us hl => match us, hl with | [_], _ => rfl
abbrev N20 : List Str := ["word", "what"]
abbrev p20 : List Str := ["word", "what"]
theorem sc20 : FnScope N20 p20 (defScope s20) := ⟨rfl, rfl, rfl, by decide +kernel, rfl, by decide +kernel, by decide +kernel⟩
theorem Fx.b20 (Z : Fx K mg base Ts fa fdd ca ta) : Binds K (fdd 20) p20 [] := Z.F20.bindsN fun _ _ _ _ _ _ us hl => match us, hl with | [_, _], _ => rfl
abbrev N21 : List Str := ["thing", "word"]
abbrev p21 : List Str := ["thing"]
theorem sc21 : FnScope N21 p21 (defScope s21) := ⟨rfl, rfl, rfl, by decide +kernel, rfl, by decide +kernel, by decide +kernel⟩
theorem Fx.b21 (Z : Fx K mg base Ts fa fdd ca ta) : Binds K (fdd 21) p21 [] := Z.F21.bindsN fun _ _ _ _ _ _ us hl => match us, hl with | [_], _ => rfl
abbrev N23 : List Str := ["_law_script"]
abbrev p23 : List Str := ["_law_script"]
theorem sc23 : FnScope N23 p23 (defScope s23) := ⟨rfl, rfl, rfl, by decide +kernel, rfl, by decide +kernel, by decide +kernel⟩
theorem Fx.b23 (Z : Fx K mg base Ts fa fdd ca ta) : Binds K (fdd 23) p23 [] := Z.F23.bindsN fun _ _ _ _ _ _ us hl => match us, hl with | [_], _ => rfl
abbrev N24 : List Str := ["_law_feed_here", "_law_many", "_law_found", "_law_at", "_law_cell", "_law_first"]
abbrev p24 : List Str := ["_law_feed_here", "_law_many"]
theorem sc24 : FnScope N24 p24 (defScope s24) := ⟨rfl, rfl, rfl, by decide +kernel, rfl, by decide +kernel, by decide +kernel⟩
theorem Fx.b24 (Z : Fx K mg base Ts fa fdd ca ta) : Binds K (fdd 24) p24 [] := Z.F24.bindsN fun _ _ _ _ _ _ us hl => match us, hl with | [_, _], _ => rfl
abbrev N25 : List Str := ["_law_thing", "_law_low", "_law_high"]
abbrev p25 : List Str := ["_law_thing", "_law_low", "_law_high"]
theorem sc25 : FnScope N25 p25 (defScope s25) := ⟨rfl, rfl, rfl, by decide +kernel, rfl, by decide +kernel, by decide +kernel⟩
theorem Fx.b25 (Z : Fx K mg base Ts fa fdd ca ta) : Binds K (fdd 25) p25 [] := Z.F25.bindsN fun _ _ _ _ _ _ us hl => match us, hl with | [_, _, _], _ => rfl
abbrev N26 : List Str := ["_law_thing", "_law_one"]
abbrev p26 : List Str := ["_law_thing"]
theorem sc26 : FnScope N26 p26 (defScope s26) := ⟨rfl, rfl, rfl, by decide +kernel, rfl, by decide +kernel, by decide +kernel⟩
theorem Fx.b26 (Z : Fx K mg base Ts fa fdd ca ta) : Binds K (fdd 26) p26 [] := Z.F26.bindsN fun _ _ _ _ _ _ us hl => match us, hl with | [_], _ => rfl
abbrev N27 : List Str := ["_law_thing"]
abbrev p27 : List Str := ["_law_thing"]
theorem sc27 : FnScope N27 p27 (defScope s27) := ⟨rfl, rfl, rfl, by decide +kernel, rfl, by decide +kernel, by decide +kernel⟩
theorem Fx.b27 (Z : Fx K mg base Ts fa fdd ca ta) : Binds K (fdd 27) p27 [] := Z.F27.bindsN fun _ _ _ _ _ _ us hl => match us, hl with | [_], _ => rfl
abbrev N28 : List Str := ["_law_thing", "_law_small", "_law_sign"]
abbrev p28 : List Str := ["_law_thing"]
theorem sc28 : FnScope N28 p28 (defScope s28) := ⟨rfl, rfl, rfl, by decide +kernel, rfl, by decide +kernel, by decide +kernel⟩
theorem Fx.b28 (Z : Fx K mg base Ts fa fdd ca ta) : Binds K (fdd 28) p28 [] := Z.F28.bindsN fun _ _ _ _ _ _ us hl => match us, hl with | [_], _ => rfl
abbrev N29 : List Str := ["_law_thing", "_law_within"]
abbrev p29 : List Str := ["_law_thing"]
theorem sc29 : FnScope N29 p29 (defScope s29) := ⟨rfl, rfl, rfl, by decide +kernel, rfl, by decide +kernel, by decide +kernel⟩
theorem Fx.b29 (Z : Fx K mg base Ts fa fdd ca ta) : Binds K (fdd 29) p29 [] := Z.F29.bindsN fun _ _ _ _ _ _ us hl => match us, hl with | [_], _ => rfl
abbrev N30 : List Str := ["_law_seat", "_law_thing"]
abbrev p30 : List Str := ["_law_seat", "_law_thing"]
theorem sc30 : FnScope N30 p30 (defScope s30) := ⟨rfl, rfl, rfl, by decide +kernel, rfl, by decide +kernel, by decide +kernel⟩
theorem Fx.b30 (Z : Fx K mg base Ts fa fdd ca ta) : Binds K (fdd 30) p30 [] := Z.F30.bindsN fun _ _ _ _ _ _ us hl => match us, hl with | [_, _], _ => rfl
abbrev N31 : List Str := ["_law_keys", "_law_k"]
abbrev p31 : List Str := ["_law_keys"]
theorem sc31 : FnScope N31 p31 (defScope s31) := ⟨rfl, rfl, rfl, by decide +kernel, rfl, by decide +kernel, by decide +kernel⟩
theorem Fx.b31 (Z : Fx K mg base Ts fa fdd ca ta) : Binds K (fdd 31) p31 [] := Z.F31.bindsN fun _ _ _ _ _ _ us hl => match us, hl with | [_], _ => rfl
abbrev N32 : List Str := ["_law_feed_here", "_law_seat", "_law_k"]
abbrev p32 : List Str := ["_law_feed_here"]
theorem sc32 : FnScope N32 p32 (defScope s32) := ⟨rfl, rfl, rfl, by decide +kernel, rfl, by decide +kernel, by decide +kernel⟩
theorem Fx.b32 (Z : Fx K mg base Ts fa fdd ca ta) : Binds K (fdd 32) p32 [] := Z.F32.bindsN fun _ _ _ _ _ _ us hl => match us, hl with | [_], _ => rfl
abbrev N33 : List Str := ["_law_feed_here", "_law_seat"]
abbrev p33 : List Str := ["_law_feed_here", "_law_seat"]
theorem sc33 : FnScope N33 p33 (defScope s33) := ⟨rfl, rfl, rfl, by decide +kernel, rfl, by decide +kernel, by decide +kernel⟩
theorem Fx.b33 (Z : Fx K mg base Ts fa fdd ca ta) : Binds K (fdd 33) p33 [] := Z.F33.bindsN fun _ _ _ _ _ _ us hl => match us, hl with | [_, _], _ => rfl
abbrev N34 : List Str := ["_law_feed_here", "_law_found", "_law_k"]
abbrev p34 : List Str := ["_law_feed_here"]
theorem sc34 : FnScope N34 p34 (defScope s34) := ⟨rfl, rfl, rfl, by decide +kernel, rfl, by decide +kernel, by decide +kernel⟩
theorem Fx.b34 (Z : Fx K mg base Ts fa fdd ca ta) : Binds K (fdd 34) p34 [] := Z.F34.bindsN fun _ _ _ _ _ _ us hl => match us, hl with | [_], _ => rfl
abbrev N35 : List Str := ["_law_feed_here", "_law_within", "_law_name"]
abbrev p35 : List Str := ["_law_feed_here"]
theorem sc35 : FnScope N35 p35 (defScope s35) := ⟨rfl, rfl, rfl, by decide +kernel, rfl, by decide +kernel, by decide +kernel⟩
theorem Fx.b35 (Z : Fx K mg base Ts fa fdd ca ta) : Binds K (fdd 35) p35 [] := Z.F35.bindsN fun _ _ _ _ _ _ us hl => match us, hl with | [_], _ => rfl
abbrev N36 : List Str := ["_law_feed_here", "_law_thing", "_law_at", "_law_some", "_law_odd", "_law_way"]
abbrev p36 : List Str := ["_law_feed_here", "_law_thing"]
theorem sc36 : FnScope N36 p36 (defScope s36) := ⟨rfl, rfl, rfl, by decide +kernel, rfl, by decide +kernel, by decide +kernel⟩
theorem Fx.b36 (Z : Fx K mg base Ts fa fdd ca ta) : Binds K (fdd 36) p36 [] := Z.F36.bindsN fun _ _ _ _ _ _ us hl => match us, hl with | [_, _], _ => rfl
abbrev N37 : List Str := ["_law_thing", "_law_row"]
abbrev p37 : List Str := ["_law_thing"]
theorem sc37 : FnScope N37 p37 (defScope s37) := ⟨rfl, rfl, rfl, by decide +kernel, rfl, by decide +kernel, by decide +kernel⟩
theorem Fx.b37 (Z : Fx K mg base Ts fa fdd ca ta) : Binds K (fdd 37) p37 [] := Z.F37.bindsN fun _ _ _ _ _ _ us hl => match us, hl with | [_], _ => rfl
abbrev N38 : List Str := ["_law_word", "_law_rest", "_law_pair", "_law_dot"]
abbrev p38 : List Str := ["_law_word", "_law_rest"]
theorem sc38 : FnScope N38 p38 (defScope s38) := ⟨rfl, rfl, rfl, by decide +kernel, rfl, by decide +kernel, by decide +kernel⟩
theorem Fx.b38 (Z : Fx K mg base Ts fa fdd ca ta) : Binds K (fdd 38) p38 [] := Z.F38.bindsN fun _ _ _ _ _ _ us hl => match us, hl with | [_, _], _ => rfl
abbrev N39 : List Str := ["_law_thing", "_law_words"]
abbrev p39 : List Str := ["_law_thing"]
theorem sc39 : FnScope N39 p39 (defScope s39) := ⟨rfl, rfl, rfl, by decide +kernel, rfl, by decide +kernel, by decide +kernel⟩
theorem Fx.b39 (Z : Fx K mg base Ts fa fdd ca ta) : Binds K (fdd 39) p39 [] := Z.F39.bindsN fun _ _ _ _ _ _ us hl => match us, hl with | [_], _ => rfl
abbrev N40 : List Str := ["_law_feed_here", "_law_found", "_law_k", "_law_seat", "_law_word", "_law_number"]
abbrev p40 : List Str := ["_law_feed_here"]
theorem sc40 : FnScope N40 p40 (defScope s40) := ⟨rfl, rfl, rfl, by decide +kernel, rfl, by decide +kernel, by decide +kernel⟩
theorem Fx.b40 (Z : Fx K mg base Ts fa fdd ca ta) : Binds K (fdd 40) p40 [] := Z.F40.bindsN fun _ _ _ _ _ _ us hl => match us, hl with | [_], _ => rfl
abbrev N41 : List Str := ["_law_feed_here", "_law_word", "_law_seat", "_law_other", "_law_dot", "_law_rests"]
abbrev p41 : List Str := ["_law_feed_here", "_law_word"]
theorem sc41 : FnScope N41 p41 (defScope s41) := ⟨rfl, rfl, rfl, by decide +kernel, rfl, by decide +kernel, by decide +kernel⟩
theorem Fx.b41 (Z : Fx K mg base Ts fa fdd ca ta) : Binds K (fdd 41) p41 [] := Z.F41.bindsN fun _ _ _ _ _ _ us hl => match us, hl with | [_, _], _ => rfl
abbrev N42 : List Str := ["_law_script", "_law_feed_here", "_law_words", "_law_things", "_law_word", "_law_deed", "_law_bent_here", "_law_thing", "_law_kept"]
abbrev p42 : List Str := ["_law_script"]
theorem sc42 : FnScope N42 p42 (defScope s42) := ⟨rfl, rfl, rfl, by decide +kernel, rfl, by decide +kernel, by decide +kernel⟩
theorem Fx.b42 (Z : Fx K mg base Ts fa fdd ca ta) : Binds K (fdd 42) p42 [] := Z.F42.bindsN fun _ _ _ _ _ _ us hl => match us, hl with | [_], _ => rfl
end

end K62

namespace K62
open PySem PySem.Spec PyProof.Rows L2 GX DL
def mkD (x : Str) (st : Stmt) : He.DefD := ⟨(x, none), x, x, defArgs st, defBody st, defScope st, [], []⟩
def fn : List He.DefD := [mkD "is_whole" s1, mkD "is_from" s2, mkD "is_between" s3, mkD "is_m" s4, mkD "is_row" s5, mkD "rise" s6, mkD "are_rows" s7, mkD "is_seat" s10, mkD "is_dot" s11, mkD "is_name" s12, mkD "is_thing" s13, mkD "is_paper_row" s15, mkD "is_paper" s16, mkD "are_dots" s18, mkD "names_letter" s19, mkD "is_what" s20, mkD "is_deed" s21, mkD "_law_feed" s23, mkD "_law_next" s24, mkD "_law_is_whole" s25, mkD "_law_is_seat" s26, mkD "_law_is_dot" s27, mkD "_law_is_name" s28, mkD "_law_is_thing" s29, mkD "_law_is_m" s30, mkD "_law_are_rising" s31, mkD "_law_any_seat" s32, mkD "_law_any_m" s33, mkD "_law_any_dots" s34, mkD "_law_any_thing" s35, mkD "_law_bent" s36, mkD "_law_is_paper" s37, mkD "_law_is_rest" s38, mkD "_law_is_deed" s39, mkD "_law_any_paper" s40, mkD "_law_any_deed" s41, mkD "law" s42]
def fts : List He.Fa := [.glo "is_whole", .glo "is_from", .glo "is_between", .glo "is_m", .glo "is_row", .glo "rise", .glo "are_rows", .glo "is_seat", .glo "is_dot", .glo "is_name", .glo "is_thing", .glo "is_paper_row", .glo "is_paper", .glo "are_dots", .glo "names_letter", .glo "is_what", .glo "is_deed", .glo "_law_feed", .glo "_law_next", .glo "_law_is_whole", .glo "_law_is_seat", .glo "_law_is_dot", .glo "_law_is_name", .glo "_law_is_thing", .glo "_law_is_m", .glo "_law_are_rising", .glo "_law_any_seat", .glo "_law_any_m", .glo "_law_any_dots", .glo "_law_any_thing", .glo "_law_bent", .glo "_law_is_paper", .glo "_law_is_rest", .glo "_law_is_deed", .glo "_law_any_paper", .glo "_law_any_deed", .glo "law", .free "all", .free "bool", .free "int", .free "isinstance", .free "len", .free "list", .free "range", .free "repr", .free "sorted", .free "str", .free "tuple", .str "SMALL_LETTERS" "abcdefghijklmnopqrstuvwxyz"]
def tf : List He.Defn := [("rise", none), ("are_rows", none), ("is_seat", none), ("is_name", none), ("are_dots", none)]
def exx (_ : PySem.W.Frag) : Bool := true
abbrev R : PySem.W.OpenRow := PySem.W.OpenLaw.row PySem.Challenge.rw_gonemarks_k62_what_is_a_deed
abbrev hk : PySem.W.Hook := He.hookX 4 fts fn [] tf exx
def ob (s : PySem.W.SharedT) : He.AlX := He.obsX 4 fts fn [] tf exx (HandSHeadRun.getT s)
theorem ob_eq (s : PySem.W.SharedT) : ob s = hk.obs s.abs := He.obsX_eq (HandSHeadRun.getT_eq s)
abbrev loose : List PySem.Str := [("is_whole" : PySem.Str), ("is_from" : PySem.Str), ("is_between" : PySem.Str), ("is_m" : PySem.Str), ("is_row" : PySem.Str), ("rise" : PySem.Str), ("are_rows" : PySem.Str), ("SMALL_LETTERS" : PySem.Str), ("is_seat" : PySem.Str), ("is_dot" : PySem.Str), ("is_name" : PySem.Str), ("is_thing" : PySem.Str), ("is_paper_row" : PySem.Str), ("is_paper" : PySem.Str), ("are_dots" : PySem.Str), ("names_letter" : PySem.Str), ("is_what" : PySem.Str), ("is_deed" : PySem.Str), ("_law_feed" : PySem.Str), ("_law_next" : PySem.Str), ("_law_is_whole" : PySem.Str), ("_law_is_seat" : PySem.Str), ("_law_is_dot" : PySem.Str), ("_law_is_name" : PySem.Str), ("_law_is_thing" : PySem.Str), ("_law_is_m" : PySem.Str), ("_law_are_rising" : PySem.Str), ("_law_any_seat" : PySem.Str), ("_law_any_m" : PySem.Str), ("_law_any_dots" : PySem.Str), ("_law_any_thing" : PySem.Str), ("_law_bent" : PySem.Str), ("_law_is_paper" : PySem.Str), ("_law_is_rest" : PySem.Str), ("_law_is_deed" : PySem.Str), ("_law_any_paper" : PySem.Str), ("_law_any_deed" : PySem.Str)]
theorem run (w : World) : HandSHeadRun.RunEq R (PySem.W.view R.prog [42]) hk ob 2000 loose w := by
  intro os
  kernel_rfl
end K62

namespace K62
open PySem PySem.Spec PyProof.Rows L2 GX DL
local macro_rules | `(tactic| decreasing_tactic) => `(tactic| (repeat (first | with_reducible refine i_seq ?_ | with_reducible refine i_ret ?_ | with_reducible refine i_retN ?_ | with_reducible refine i_nil ?_ | with_reducible refine i_if ?_ | with_reducible refine i_asg ?_ | with_reducible refine i_own ?_ | with_reducible refine i_for ?_ | with_reducible refine i_forL ?_ | with_reducible refine i_c ?_ | with_reducible refine i_o ?_ | with_reducible refine i_ch ?_ | with_reducible refine i_tr ?_ | with_reducible refine i_tru ?_ | with_reducible refine i_andT ?_ | with_reducible refine i_orT ?_ | with_reducible refine i_notT ?_ | with_reducible refine i_andD ?_ | with_reducible refine i_orD ?_ | with_reducible refine i_notD ?_ | with_reducible refine i_ifD ?_ | with_reducible refine i_isi ?_ | with_reducible refine i_b1 ?_ | with_reducible refine i_m1 ?_ | with_reducible refine i_neg ?_ | with_reducible refine i_call ?_ | with_reducible refine i_dSA ?_ | with_reducible refine i_fnSA ?_ | with_reducible refine i_nilSA ?_ | with_reducible refine i_tup ?_ | with_reducible refine i_lst ?_ | with_reducible refine i_asL ?_ | with_reducible refine i_nilA ?_ | with_reducible refine i_consA ?_ | with_reducible refine i_sl ?_ | with_reducible refine i_slN ?_ | with_reducible refine i_noO ?_ | with_reducible refine i_someO ?_ | with_reducible refine i_rev ?_ | with_reducible refine i_gN ?_ | with_reducible refine i_gC ?_ | with_reducible refine i_gNil ?_ | with_reducible refine i_lc ?_ | with_reducible refine i_lcL ?_ | with_reducible refine i_aa ?_ | with_reducible refine i_tupN ?_ | with_reducible refine i_seqI ?_ | with_reducible refine i_rg1 ?_ | with_reducible refine i_rg2 ?_ | with_reducible refine i_cat ?_ | with_reducible refine i_list1 ?_ | with_reducible refine i_sort ?_ | with_reducible refine i_yes ?_ | with_reducible refine i_onB ?_ | with_reducible refine i_onI ?_ | with_reducible refine i_onS ?_ | with_reducible refine i_onT ?_ | with_reducible refine i_onL ?_ | with_reducible refine i_wT ?_ | with_reducible refine i_wL ?_ | with_reducible refine i_wS ?_ | with_reducible refine i_itT ?_ | with_reducible refine i_itL ?_ | with_reducible refine i_lenT ?_ | with_reducible refine i_lenL ?_ | with_reducible refine i_ix0 ?_ | with_reducible refine i_ix1 ?_ | with_reducible refine i_ix2 ?_ | with_reducible refine i_ix3 ?_ | with_reducible refine i_tuple1L ?_ | with_reducible refine i_tuple1T ?_ | with_reducible refine i_addI ?_ | with_reducible refine i_subI ?_ | with_reducible refine i_ltI ?_ | with_reducible refine i_intB ?_ | with_reducible refine i_s1 ?_ | with_reducible refine i_s2 ?_ | with_reducible refine i_s3 ?_ | with_reducible refine i_sF0 ?_ | with_reducible refine i_sF1 ?_ | with_reducible refine i_tt ?_ | with_reducible refine i_ff ?_ | with_reducible refine i_ntt ?_ | with_reducible refine i_nff ?_ | with_reducible refine i_dict ?_ | with_reducible refine i_rep ?_ | with_reducible refine i_slL ?_ | with_reducible refine i_slT ?_ | with_reducible refine i_newD ?_ | with_reducible refine i_dictO ?_ | with_reducible refine i_call0 ?_ | with_reducible refine i_s00 ?_ | with_reducible refine i_v (by with_unfolding_all rfl) ?_ | with_reducible refine i_vP (by with_unfolding_all rfl) ?_ | with_reducible refine i_vO (by with_unfolding_all rfl) ?_ | with_reducible refine i_feedSA (by with_unfolding_all rfl) ?_ | with_reducible refine i_callL (by with_unfolding_all rfl) ?_ | with_reducible refine i_gT (by with_unfolding_all rfl) ?_ | with_reducible refine i_app (by with_unfolding_all rfl) ?_ | with_reducible refine i_ext (by with_unfolding_all rfl) ?_ | with_reducible refine i_frz (by with_unfolding_all rfl) ?_ | with_reducible refine ifNT (by with_unfolding_all rfl) ?_ | with_reducible refine ifNF (by with_unfolding_all rfl) ?_ | with_reducible refine ifT (by with_unfolding_all rfl) ?_ | with_reducible refine ifF (by with_unfolding_all rfl) ?_ | with_reducible refine i_setD (by with_unfolding_all rfl) ?_ | with_reducible refine i_ixN (by with_unfolding_all rfl) ?_ | with_reducible refine i_inN (by with_unfolding_all rfl) ?_ | with_reducible refine i_sortDO (by with_unfolding_all rfl) ?_ | with_reducible refine i_szL (by with_unfolding_all rfl) ?_ | with_reducible refine i_eq1 (by with_unfolding_all rfl) ?_ | with_reducible refine i_eq2 (by with_unfolding_all rfl) ?_ | with_reducible refine i_in1 (by with_unfolding_all rfl) ?_ | with_reducible refine i_in2 (by with_unfolding_all rfl) ?_ | with_reducible refine i_nin1 (by with_unfolding_all rfl) ?_ | with_reducible refine i_nin2 (by with_unfolding_all rfl) ?_ | with_reducible refine i_catL (by with_unfolding_all rfl) ?_ | with_reducible refine i_catT (by with_unfolding_all rfl) ?_ | with_reducible refine i_rgc (by with_unfolding_all rfl) ?_ | with_reducible refine i_rgl (by with_unfolding_all rfl) ?_)))
/-! ### is_whole -/
@[reducible] def sp_is_whole : SpecD := sp1 fun d R => R (.bool (NA.whD d))
def cost_is_whole : Nat := 0
def rd_is_whole : DS := (retS (andD (isiD NA.isI (vD 0)) (notD (isiD NA.isB (vD 0)))))
section
variable {P : Program} {w : World} {K : PySem.W.Frag} {mg : Str → Option Value} {base : Heap} {Ts : List Addr} {fa : Nat → Addr} {fdd : Nat → FuncData} {ca ta : Nat → Addr} {g : Option Addr} {sa ga : Addr} {n0 : Int} {ns : List Int}
theorem dv_is_whole (Z : Fx K mg base Ts fa fdd ca ta) {A : Around} {outer : List Env} {s : Shared} {H : Hp} {E : XK} {F0 : List Addr} (hr : Room 0 (A.deeper (envOfC "is_whole" (defScope s1) s.heap.objs.size (fa 1) (.ref (ca 1))))) : ∃ κ, PDSs (cxOf CX0 P w K mg base N1 "is_whole" (defScope s1) (fa 1) (.ref (ca 1)) A outer s H E).nox (cc0 ⟨K, Ts, g, sa, (n0 :: ns), 2⟩ H F0) κ (defBody s1) rd_is_whole ∧ κ ≤ cost_is_whole :=
  ⟨_, (ss_one (s_ret (d_and (d_isi (T := "int") (fun _ _ _ h => NA.kitInt h) (by rfl) Z.b_isinstance (PD.pp (d_var (pv 0))) (pe_bltn (by rfl) Z.b_int (by decide +kernel) (v := .ty "int") rfl)) (d_one (d_not (d_isi (T := "bool") (fun _ _ _ h => NA.kitBool h) (by rfl) Z.b_isinstance (PD.pp (d_var (pv 0))) (pe_bltn (by rfl) Z.b_bool (by decide +kernel) (v := .ty "bool") rfl))))))), by decide +kernel⟩
theorem ok_is_whole (Z : Fx K mg base Ts fa fdd ca ta) : FnOk P w K mg base CX0 1 (fa 1) (fdd 1) p1 (spD ⟨K, Ts, g, sa, (n0 :: ns), 2⟩ cost_is_whole sp_is_whole) := okD Z.F1 Z.c1 sc1 c1 fun A outer s H E F0 hr => ⟨_, dv_is_whole Z hr, fun ss R h => by
  obtain ⟨d, rfl, h⟩ := sp1_ok h
  cases d <;> exact h⟩
end
/-! ### is_from -/
@[reducible] def sp_is_from : SpecD := sp2 fun d e R => onI e fun lo => R (.bool (NA.fromD d lo))
def cost_is_from : Nat := 0
def rd_is_from : DS := (retS (andD (callD sp_is_whole (dSA (vD 0) nilSA)) (oD geO (vD 0) (vD 1))))
section
variable {P : Program} {w : World} {K : PySem.W.Frag} {mg : Str → Option Value} {base : Heap} {Ts : List Addr} {fa : Nat → Addr} {fdd : Nat → FuncData} {ca ta : Nat → Addr} {g : Option Addr} {sa ga : Addr} {n0 : Int} {ns : List Int}
theorem dv_is_from (Z : Fx K mg base Ts fa fdd ca ta) {A : Around} {outer : List Env} {s : Shared} {H : Hp} {E : XK} {F0 : List Addr} (hr : Room 1 (A.deeper (envOfC "is_from" (defScope s2) s.heap.objs.size (fa 2) (.ref (ca 2))))) : ∃ κ, PDSs (cxOf CX0 P w K mg base N2 "is_from" (defScope s2) (fa 2) (.ref (ca 2)) A outer s H E).nox (cc0 ⟨K, Ts, g, sa, (n0 :: ns), 2⟩ H F0) κ (defBody s2) rd_is_from ∧ κ ≤ cost_is_from :=
  ⟨_, (ss_one (s_ret (d_and (d_call (ok_is_whole Z) (hr.mono (by decide)) rfl Z.g1 Z.F1.kp Z.b1 (sa_d (d_var (pv 0)) sa_nil)) (d_one (d_cmp (ol_ge hr) oo_cmp (PD.pp (d_var (pv 0))) (PD.pp (d_var (pv 1))) (nomark _)))))), by decide +kernel⟩
theorem ok_is_from (Z : Fx K mg base Ts fa fdd ca ta) : FnOk P w K mg base CX0 2 (fa 2) (fdd 2) p2 (spD ⟨K, Ts, g, sa, (n0 :: ns), 2⟩ cost_is_from sp_is_from) := okD Z.F2 Z.c2 sc2 c2 fun A outer s H E F0 hr => ⟨_, dv_is_from Z hr, fun ss R h => by
  obtain ⟨d, e, rfl, h⟩ := sp2_ok h
  obtain ⟨lo, rfl, h⟩ := onI_ok h
  cases d <;> exact h⟩
end
/-! ### is_between -/
@[reducible] def sp_is_between : SpecD := sp3 fun d e f R => onI e fun lo => onI f fun hi => R (.bool (NA.btwD d lo hi))
def cost_is_between : Nat := 0
def rd_is_between : DS := (retS (andD (callD sp_is_whole (dSA (vD 0) nilSA)) (chD leO leO (vD 1) (vD 0) (vD 2))))
section
variable {P : Program} {w : World} {K : PySem.W.Frag} {mg : Str → Option Value} {base : Heap} {Ts : List Addr} {fa : Nat → Addr} {fdd : Nat → FuncData} {ca ta : Nat → Addr} {g : Option Addr} {sa ga : Addr} {n0 : Int} {ns : List Int}
theorem dv_is_between (Z : Fx K mg base Ts fa fdd ca ta) {A : Around} {outer : List Env} {s : Shared} {H : Hp} {E : XK} {F0 : List Addr} (hr : Room 1 (A.deeper (envOfC "is_between" (defScope s3) s.heap.objs.size (fa 3) (.ref (ca 3))))) : ∃ κ, PDSs (cxOf CX0 P w K mg base N3 "is_between" (defScope s3) (fa 3) (.ref (ca 3)) A outer s H E).nox (cc0 ⟨K, Ts, g, sa, (n0 :: ns), 2⟩ H F0) κ (defBody s3) rd_is_between ∧ κ ≤ cost_is_between :=
  ⟨_, (ss_one (s_ret (d_and (d_call (ok_is_whole Z) (hr.mono (by decide)) rfl Z.g1 Z.F1.kp Z.b1 (sa_d (d_var (pv 0)) sa_nil)) (d_one (d_chain (ol_le hr) oo_cmp (ol_le hr) oo_cmp (PD.pp (d_var (pv 1))) (PD.pp (d_var (pv 0))) (PD.pp (d_var (pv 2)))))))), by decide +kernel⟩
theorem ok_is_between (Z : Fx K mg base Ts fa fdd ca ta) : FnOk P w K mg base CX0 2 (fa 3) (fdd 3) p3 (spD ⟨K, Ts, g, sa, (n0 :: ns), 2⟩ cost_is_between sp_is_between) := okD Z.F3 Z.c3 sc3 c3 fun A outer s H E F0 hr => ⟨_, dv_is_between Z hr, fun ss R h => by
  obtain ⟨d, e, f, rfl, h⟩ := sp3_ok h
  obtain ⟨lo, rfl, h⟩ := onI_ok h
  obtain ⟨hi, rfl, h⟩ := onI_ok h
  cases d with
  | int i =>
    show if decide (lo ≤ i) = true then R (.bool (decide (i ≤ hi))) else R (.bool false)
    have z : R (.bool (decide (lo ≤ i) && decide (i ≤ hi))) := h
    cases e : decide (lo ≤ i) <;> rw [e] at z <;> exact z
  | _ => exact h⟩
end
/-! ### is_row -/
@[reducible] def sp_is_row : SpecD := sp2 fun d e R => onI e fun n => R (.bool (NA.rowD d n))
def cost_is_row : Nat := 0
def rd_is_row : DS := (retS (andD (isiD NA.isT (vD 0)) (oD eqO (b1D lenO (vD 0)) (vD 1))))
section
variable {P : Program} {w : World} {K : PySem.W.Frag} {mg : Str → Option Value} {base : Heap} {Ts : List Addr} {fa : Nat → Addr} {fdd : Nat → FuncData} {ca ta : Nat → Addr} {g : Option Addr} {sa ga : Addr} {n0 : Int} {ns : List Int}
theorem dv_is_row (Z : Fx K mg base Ts fa fdd ca ta) {A : Around} {outer : List Env} {s : Shared} {H : Hp} {E : XK} {F0 : List Addr} (hr : Room 0 (A.deeper (envOfC "is_row" (defScope s5) s.heap.objs.size (fa 5) (.ref (ca 5))))) : ∃ κ, PDSs (cxOf CX0 P w K mg base N5 "is_row" (defScope s5) (fa 5) (.ref (ca 5)) A outer s H E).nox (cc0 ⟨K, Ts, g, sa, (n0 :: ns), 2⟩ H F0) κ (defBody s5) rd_is_row ∧ κ ≤ cost_is_row :=
  ⟨_, (ss_one (s_ret (d_and (d_isi (T := "tuple") (fun _ _ _ h => NA.kitTuple h) (by rfl) Z.b_isinstance (PD.pp (d_var (pv 0))) (pe_bltn (by rfl) Z.b_tuple (by decide +kernel) (v := .ty "tuple") rfl)) (d_one (d_cmp (op_eqP hr) od_cmp (PD.pp (d_len (by rfl) Z.b_len (PD.pp (d_var (pv 0))))) (PD.pp (d_var (pv 1))) (nomark _)))))), by decide +kernel⟩
theorem ok_is_row (Z : Fx K mg base Ts fa fdd ca ta) : FnOk P w K mg base CX0 1 (fa 5) (fdd 5) p5 (spD ⟨K, Ts, g, sa, (n0 :: ns), 2⟩ cost_is_row sp_is_row) := okD Z.F5 Z.c5 sc5 c2 fun A outer s H E F0 hr => ⟨_, dv_is_row Z hr, fun ss R h => by
  obtain ⟨d, e, rfl, h⟩ := sp2_ok h
  obtain ⟨n, rfl, h⟩ := onI_ok h
  cases d with
  | tuple ds =>
    show cMin (.int ds.length) (.int n) ∧ R (.bool ((ds.length : Int) == n))
    have z : R (.bool (decide ((ds.length : Int) = n))) := h
    exact ⟨by show min 0 0 ≤ 64; decide, z⟩
  | _ => exact h⟩
end
/-! ### is_seat -/
@[reducible] def sp_is_seat : SpecD := sp1 fun d R => R (.bool (NA.seatD d))
def cost_is_seat : Nat := 0
def rd_is_seat : DS := (seqS (ifS (orT (notT (tr (isiD NA.isT (vD 0)))) (notT (tr (chD leO leO (cD (.int 1)) (b1D lenO (vD 0)) (cD (.int 5)))))) (retS (cD (.bool false))) nilS) (retS (andD (callD sp_is_between (dSA (oD ixO (vD 0) (cD (.int 0))) (dSA (cD (.int 0)) (dSA (cD (.int 3)) nilSA)))) (aaN true (seqI (slD (vD 0) (someO (cD (.int 1))) noO)) [1] (gN 1) yesT (callD sp_is_between (dSA (vD 1) (dSA (cD (.int 1)) (dSA (cD (.int 99)) nilSA))))))))
section
variable {P : Program} {w : World} {K : PySem.W.Frag} {mg : Str → Option Value} {base : Heap} {Ts : List Addr} {fa : Nat → Addr} {fdd : Nat → FuncData} {ca ta : Nat → Addr} {g : Option Addr} {sa ga : Addr} {n0 : Int} {ns : List Int}
theorem dv_is_seat (Z : Fx K mg base Ts fa fdd ca ta) {A : Around} {outer : List Env} {s : Shared} {H : Hp} {E : XK} {F0 : List Addr} (hr : Room 3 (A.deeper (envOfC "is_seat" (defScope s10) s.heap.objs.size (fa 10) (.ref (ca 10))))) : ∃ κ, PDSs (cxOf CX0 P w K mg base N10 "is_seat" (defScope s10) (fa 10) (.ref (ca 10)) A outer s H E).nox (cc0 ⟨K, Ts, g, sa, (n0 :: ns), 2⟩ H F0) κ (defBody s10) rd_is_seat ∧ κ ≤ cost_is_seat :=
  ⟨_, (ss_cons (s_if (PW.pt (w_or (t_not (t_val (d_isi (T := "tuple") (fun _ _ _ h => NA.kitTuple h) (by rfl) Z.b_isinstance (PD.pp (d_var (pv 0))) (pe_bltn (by rfl) Z.b_tuple (by decide +kernel) (v := .ty "tuple") rfl)))) (w_or1 (t_not (t_chain (ol_le hr) oo_cmp (ol_le hr) oo_cmp (PD.pp d_int) (PD.pp (d_len (by rfl) Z.b_len (PD.pp (d_var (pv 0))))) (PD.pp d_int)))))) (ss_one (s_ret d_bl)) ss_nil) (ss_one (s_ret (d_and (d_call (ok_is_between Z) (hr.mono (by decide)) rfl Z.g3 Z.F3.kp Z.b3 (sa_d (d_ix (PD.pp (d_var (pv 0))) (PD.pp d_int) (fun _ _ => rfl)) (sa_d d_int (sa_d d_int sa_nil)))) (d_one (d_all (own := [("number", 1)]) (⟨hr, rfl, sc10.nd, Z.TB10, rfl, Z.hP10⟩ : Gxc _ _ _ _ _) (by rfl) Z.b_all (blkOk_by (N := N10) (sc := (defScope s10)) (by first | decide +kernel | kernel_rfl)) rfl (by decide +kernel) rfl (i_any_p (PD.pp (d_sl (PD.pp (d_var (pv 0))) (o_some (PD.pp d_int)) o_none))) (fun _ _ _ _ _ => (g_name (pg_name (i := 1) sc10.nd rfl (Or.inl rfl)))) (fun _ _ _ _ _ hr => ts_nil) (fun _ _ _ _ _ hr => (d_call (ok_is_between Z) (hr.mono (by decide)) rfl Z.g3 Z.F3.kp Z.b3 (sa_d (d_var (pv 1)) (sa_d d_int (sa_d d_int sa_nil))))) (by decide))))))), by decide +kernel⟩
theorem ok_is_seat (Z : Fx K mg base Ts fa fdd ca ta) : FnOk P w K mg base CX0 4 (fa 10) (fdd 10) p10 (spD ⟨K, Ts, g, sa, (n0 :: ns), 2⟩ cost_is_seat sp_is_seat) := okD Z.F10 Z.c10 sc10 c1 fun A outer s H E F0 hr => ⟨_, dv_is_seat Z hr, fun ss R h => by
  obtain ⟨d, rfl, h⟩ := sp1_ok h
  cases d with
  | tuple ds =>
    cases ds with
    | nil => exact h
    | cons x r =>
      have h' : R (.bool (decide (r.length ≤ 4) && (NA.btwD x 0 3 && r.all fun y => NA.btwD y 1 99))) := h
      have l1 : decide ((1 : Int) ≤ (((x :: r).length : Nat) : Int)) = true := decide_eq_true (by rw [List.length_cons]; omega)
      have l2 : decide ((((x :: r).length : Nat) : Int) ≤ 5) = decide (r.length ≤ 4) := by
        rw [List.length_cons]
        by_cases z : r.length ≤ 4
        · rw [decide_eq_true z, decide_eq_true (by omega)]
        · rw [decide_eq_false z, decide_eq_false (by omega)]
      refine ifT l1 ?_
      rw [← l2] at h'
      refine ifNE (b := decide ((((x :: r).length : Nat) : Int) ≤ 5)) (fun e => ?_) (fun e => ?_)
      · rw [e, Bool.false_and] at h'
        exact h'
      · rw [e, Bool.true_and] at h'
        refine onAt0 ?_
        refine ifE (b := NA.btwD x 0 3) (fun e2 => ?_) (fun e2 => ?_)
        · rw [e2, Bool.true_and] at h'
          have c : cutD (x :: r) (some 1) none = r := cutD1
          show onO (walkD (.tuple (cutD (x :: r) (some 1) none))) _
          rw [c]
          exact aa_all (f := fun y => NA.btwD y 1 99) (fun d _ Q q => q) h'
        · rw [e2, Bool.false_and] at h'
          exact h'
  | _ => exact h⟩
end
/-! ### is_dot -/
@[reducible] def sp_is_dot : SpecD := sp1 fun d R => R (.bool (NA.dotD d))
def cost_is_dot : Nat := 0
def rd_is_dot : DS := (retS (andD (callD sp_is_row (dSA (vD 0) (dSA (cD (.int 2)) nilSA))) (andD (callD sp_is_seat (dSA (oD ixO (vD 0) (cD (.int 0))) nilSA)) (callD sp_is_from (dSA (oD ixO (vD 0) (cD (.int 1))) (dSA (cD (.int 1)) nilSA))))))
section
variable {P : Program} {w : World} {K : PySem.W.Frag} {mg : Str → Option Value} {base : Heap} {Ts : List Addr} {fa : Nat → Addr} {fdd : Nat → FuncData} {ca ta : Nat → Addr} {g : Option Addr} {sa ga : Addr} {n0 : Int} {ns : List Int}
theorem dv_is_dot (Z : Fx K mg base Ts fa fdd ca ta) {A : Around} {outer : List Env} {s : Shared} {H : Hp} {E : XK} {F0 : List Addr} (hr : Room 4 (A.deeper (envOfC "is_dot" (defScope s11) s.heap.objs.size (fa 11) (.ref (ca 11))))) : ∃ κ, PDSs (cxOf CX0 P w K mg base N11 "is_dot" (defScope s11) (fa 11) (.ref (ca 11)) A outer s H E).nox (cc0 ⟨K, Ts, g, sa, (n0 :: ns), 2⟩ H F0) κ (defBody s11) rd_is_dot ∧ κ ≤ cost_is_dot :=
  ⟨_, (ss_one (s_ret (d_and (d_call (ok_is_row Z) (hr.mono (by decide)) rfl Z.g5 Z.F5.kp Z.b5 (sa_d (d_var (pv 0)) (sa_d d_int sa_nil))) (d_and (d_call (ok_is_seat Z) (hr.mono (by decide)) rfl Z.g10 Z.F10.kp Z.b10 (sa_d (d_ix (PD.pp (d_var (pv 0))) (PD.pp d_int) (fun _ _ => rfl)) sa_nil)) (d_one (d_call (ok_is_from Z) (hr.mono (by decide)) rfl Z.g2 Z.F2.kp Z.b2 (sa_d (d_ix (PD.pp (d_var (pv 0))) (PD.pp d_int) (fun _ _ => rfl)) (sa_d d_int sa_nil)))))))), by decide +kernel⟩
theorem ok_is_dot (Z : Fx K mg base Ts fa fdd ca ta) : FnOk P w K mg base CX0 5 (fa 11) (fdd 11) p11 (spD ⟨K, Ts, g, sa, (n0 :: ns), 2⟩ cost_is_dot sp_is_dot) := okD Z.F11 Z.c11 sc11 c1 fun A outer s H E F0 hr => ⟨_, dv_is_dot Z hr, fun ss R h => by
  obtain ⟨d, rfl, h⟩ := sp1_ok h
  cases d with
  | tuple ds =>
    match ds with
    | [] => exact h
    | [x] => exact h
    | [x, y] =>
      have h' : R (.bool (NA.seatD x && NA.fromD y 1)) := h
      refine ifE (b := NA.seatD x) (fun e => ?_) (fun e => ?_)
      · rw [e, Bool.true_and] at h'
        exact h'
      · rw [e, Bool.false_and] at h'
        exact h'
    | x :: y :: z :: r =>
      exact h
  | _ => exact h⟩
end
/-! ### is_m -/
def lenT : PyData → Nat
  | .tuple ds => ds.length
  | _ => 0
def mTop (s : PyData) : Int := if lenT s = 5 then 0 else 99
@[reducible] def sp_is_m : SpecD := sp2 fun d e R => onT e fun _ => R (.bool (NA.btwD d 0 (mTop e)))
def cost_is_m : Nat := 0
def rd_is_m : DS := (retS (callD sp_is_between (dSA (vD 0) (dSA (cD (.int 0)) (dSA (ifD (tr (oD eqO (b1D lenO (vD 1)) (cD (.int 5)))) (cD (.int 0)) (cD (.int 99))) nilSA)))))
section
variable {P : Program} {w : World} {K : PySem.W.Frag} {mg : Str → Option Value} {base : Heap} {Ts : List Addr} {fa : Nat → Addr} {fdd : Nat → FuncData} {ca ta : Nat → Addr} {g : Option Addr} {sa ga : Addr} {n0 : Int} {ns : List Int}
theorem dv_is_m (Z : Fx K mg base Ts fa fdd ca ta) {A : Around} {outer : List Env} {s : Shared} {H : Hp} {E : XK} {F0 : List Addr} (hr : Room 2 (A.deeper (envOfC "is_m" (defScope s4) s.heap.objs.size (fa 4) (.ref (ca 4))))) : ∃ κ, PDSs (cxOf CX0 P w K mg base N4 "is_m" (defScope s4) (fa 4) (.ref (ca 4)) A outer s H E).nox (cc0 ⟨K, Ts, g, sa, (n0 :: ns), 2⟩ H F0) κ (defBody s4) rd_is_m ∧ κ ≤ cost_is_m :=
  ⟨_, (ss_one (s_ret (d_call (ok_is_between Z) (hr.mono (by decide)) rfl Z.g3 Z.F3.kp Z.b3 (sa_d (d_var (pv 0)) (sa_d d_int (sa_d (d_if (t_cmp (op_eqP hr) od_cmp (PD.pp (d_len (by rfl) Z.b_len (PD.pp (d_var (pv 1))))) (PD.pp d_int) (nomark _)) d_int d_int) sa_nil)))))), by decide +kernel⟩
theorem ok_is_m (Z : Fx K mg base Ts fa fdd ca ta) : FnOk P w K mg base CX0 3 (fa 4) (fdd 4) p4 (spD ⟨K, Ts, g, sa, (n0 :: ns), 2⟩ cost_is_m sp_is_m) := okD Z.F4 Z.c4 sc4 c2 fun A outer s H E F0 hr => ⟨_, dv_is_m Z hr, fun ss R h => by
  obtain ⟨d, e, rfl, h⟩ := sp2_ok h
  obtain ⟨ds, rfl, h⟩ := onT_ok h
  refine ⟨by show min 0 0 ≤ 64; decide, ?_⟩
  have q : mTop (.tuple ds) = if ds.length = 5 then 0 else 99 := rfl
  rw [q] at h
  refine ifE (b := PyData.eqv (.int (ds.length : Int)) (.int 5)) (fun e => ?_) (fun e => ?_)
  · have e' : (ds.length : Int) = 5 := by
      have : ((ds.length : Int) == 5) = true := e
      exact eq_of_beq this
    rw [if_pos (by omega)] at h
    exact h
  · have e' : ¬ (ds.length : Int) = 5 := by
      have : ((ds.length : Int) == 5) = false := e
      exact ne_of_beq_false this
    rw [if_neg (by omega)] at h
    exact h⟩
end
/-! ### rise -/
@[reducible] def sp_rise : SpecD := sp1 fun d R => onL d fun ds => ds.length < 2 ^ 60 ∧ (∀ x ∈ ds, ∀ y ∈ ds, cOrd x y ∧ (∀ i, x ≠ .int i)) ∧ R (.bool (riseB ds))
def cost_rise : Nat := 0
def rd_rise : DS := (retS (aaN true (rng1 (oD subO (b1D lenO (vD 0)) (cD (.int 1)))) [1] (gN 1) yesT (oD ltO (oD ixO (vD 0) (vD 1)) (oD ixO (vD 0) (oD addO (vD 1) (cD (.int 1)))))))
section
variable {P : Program} {w : World} {K : PySem.W.Frag} {mg : Str → Option Value} {base : Heap} {Ts : List Addr} {fa : Nat → Addr} {fdd : Nat → FuncData} {ca ta : Nat → Addr} {g : Option Addr} {sa ga : Addr} {n0 : Int} {ns : List Int}
theorem dv_rise (Z : Fx K mg base Ts fa fdd ca ta) {A : Around} {outer : List Env} {s : Shared} {H : Hp} {E : XK} {F0 : List Addr} (hr : Room 1 (A.deeper (envOfC "rise" (defScope s6) s.heap.objs.size (fa 6) (.ref (ca 6))))) : ∃ κ, PDSs (cxOf CX0 P w K mg base N6 "rise" (defScope s6) (fa 6) (.ref (ca 6)) A outer s H E).nox (cc0 ⟨K, Ts, g, sa, (n0 :: ns), 2⟩ H F0) κ (defBody s6) rd_rise ∧ κ ≤ cost_rise :=
  ⟨_, (ss_one (s_ret (d_all (own := [("k", 1)]) (⟨hr, rfl, sc6.nd, Z.TB6, rfl, Z.hP6⟩ : Gxc _ _ _ _ _) (by rfl) Z.b_all (blkOk_by (N := N6) (sc := (defScope s6)) (by first | decide +kernel | kernel_rfl)) rfl (by decide +kernel) rfl (PDI.ppi (i_rng1 (by rfl) Z.b_range (PD.pp (d_sub (PD.pp (d_len (by rfl) Z.b_len (PD.pp (d_var (pv 0))))) (PD.pp d_int))))) (fun _ _ _ _ _ => (g_name (pg_name (i := 1) sc6.nd rfl (Or.inl rfl)))) (fun _ _ _ _ _ hr => ts_nil) (fun _ _ _ _ _ hr => (d_cmp (ol_lt hr) oo_cmp (PD.pp (d_ix (PD.pp (d_var (pv 0))) (PD.pp (d_var (pv 1))) (fun _ _ => rfl))) (PD.pp (d_ix (PD.pp (d_var (pv 0))) (PD.pp (d_add (PD.pp (d_var (pv 1))) (PD.pp d_int))) (fun _ _ => rfl))) (nomark _))) (by decide)))), by decide +kernel⟩
theorem ok_rise (Z : Fx K mg base Ts fa fdd ca ta) : FnOk P w K mg base CX0 2 (fa 6) (fdd 6) p6 (spD ⟨K, Ts, g, sa, (n0 :: ns), 2⟩ cost_rise sp_rise) := okD Z.F6 Z.c6 sc6 c1 fun A outer s H E F0 hr => ⟨_, dv_rise Z hr, fun ss R h => by
  obtain ⟨d, rfl, h⟩ := sp1_ok h
  obtain ⟨ds, rfl, hl, hc, h⟩ := onL_ok h
  refine ⟨by show _ ≤ (ds.length : Int) - 1; omega, by show (ds.length : Int) - 1 < _; omega, ?_⟩
  show aaD true (gN 1) yesT _ _ R (rngD 0 ((ds.length : Int) - 1).toNat)
  have nn : ((ds.length : Int) - 1).toNat = ds.length - 1 := by omega
  rw [nn]
  refine aa_all (f := fun z => match z with | .int i => (match ds[i.toNat]?, ds[i.toNat + 1]? with | some x, some y => PySem.W.dataLt x y | _, _ => true) | _ => true) (fun d hd Q q => ?_) ?_
  · obtain ⟨i, hi, rfl⟩ := rngD_mem hd
    have e0 : (0 : Int) + (i : Int) = (i : Int) := by omega
    rw [e0] at q ⊢
    have l1 : i < ds.length := by omega
    have l2 : i + 1 < ds.length := by omega
    have g1 : ds[i]? = some ds[i] := List.getElem?_eq_getElem l1
    have g2 : ds[i + 1]? = some ds[i + 1] := List.getElem?_eq_getElem l2
    have q : Q (.bool (PySem.W.dataLt ds[i] ds[i + 1])) := by
      have : ((i : Int)).toNat = i := by omega
      simpa only [this, g1, g2] using q
    show onO (atI ds (i : Int)) _
    rw [atI_get g1]
    show onO (atI ds ((i : Int) + 1)) _
    rw [show ((i : Int) + 1) = ((i + 1 : Nat) : Int) by omega, atI_get g2]
    obtain ⟨c1, c2⟩ := hc ds[i] (List.getElem_mem l1) ds[i + 1] (List.getElem_mem l2)
    show ltO ds[i] ds[i + 1] Q
    generalize ds[i] = x at *
    generalize ds[i + 1] = y at *
    cases x with
    | int j => exact absurd rfl (c2 j)
    | _ => cases y <;> exact ⟨c1, q⟩
  · have e : ((rngD 0 (ds.length - 1)).all fun z => match z with | .int i => (match ds[i.toNat]?, ds[i.toNat + 1]? with | some x, some y => PySem.W.dataLt x y | _, _ => true) | _ => true) = riseB ds := by
      rw [Bool.eq_iff_iff, riseB_at, List.all_eq_true]
      constructor
      · intro hh i x y hx hy
        have l2 : i + 1 < ds.length := (List.getElem?_eq_some_iff.mp hy).1
        have m : PyData.int (0 + (i : Int)) ∈ rngD 0 (ds.length - 1) := by
          unfold rngD
          exact List.mem_map.mpr ⟨i, List.mem_range.mpr (by omega), rfl⟩
        have z := hh _ m
        have : ((0 : Int) + (i : Int)).toNat = i := by omega
        simpa only [this, hx, hy] using z
      · intro hh z hz
        obtain ⟨i, hi, rfl⟩ := rngD_mem hz
        have l1 : i < ds.length := by omega
        have l2 : i + 1 < ds.length := by omega
        have g1 : ds[i]? = some ds[i] := List.getElem?_eq_getElem l1
        have g2 : ds[i + 1]? = some ds[i + 1] := List.getElem?_eq_getElem l2
        have : ((0 : Int) + (i : Int)).toNat = i := by omega
        simpa only [this, g1, g2] using hh i _ _ g1 g2
    rw [e]
    exact h⟩
end
theorem castLe {m n : Nat} : decide ((m : Int) ≤ (n : Int)) = decide (m ≤ n) := by
  by_cases h : m ≤ n
  · rw [decide_eq_true h, decide_eq_true (by omega)]
  · rw [decide_eq_false h, decide_eq_false (by omega)]
abbrev letters : Str := "abcdefghijklmnopqrstuvwxyz"
def smallS (z : PyData) : Bool := match z with
  | .str y => decide (y.cps[0]?.getD 0 ∈ letters.cps.toList)
  | _ => false
def nameD (d : PyData) : Bool := match d with
  | .str x => decide (1 ≤ x.length) && (decide (x.length ≤ 8) && (signsD x).all smallS)
  | _ => false
theorem sign_of {x : Str} {d : PyData} (h : d ∈ signsD x) : ∃ c, d = .str ⟨#[c]⟩ := by
  obtain ⟨c, _, rfl⟩ := List.mem_map.mp h
  exact ⟨c, rfl⟩
/-! ### is_name -/
@[reducible] def sp_is_name : SpecD := sp1 fun d R => (∀ x, d = .str x → x.length ≤ sizeLine) ∧ R (.bool (nameD d))
def cost_is_name : Nat := 0
def rd_is_name : DS := (seqS (ifS (orT (notT (tr (isiD NA.isS (vD 0)))) (notT (tr (chD leO leO (cD (.int 1)) (b1D lenO (vD 0)) (cD (.int 8)))))) (retS (cD (.bool false))) nilS) (retS (aaN true (seqI (vD 0)) [1] (gN 1) yesT (oD inO (vD 1) (cD (.str "abcdefghijklmnopqrstuvwxyz"))))))
section
variable {P : Program} {w : World} {K : PySem.W.Frag} {mg : Str → Option Value} {base : Heap} {Ts : List Addr} {fa : Nat → Addr} {fdd : Nat → FuncData} {ca ta : Nat → Addr} {g : Option Addr} {sa ga : Addr} {n0 : Int} {ns : List Int}
theorem dv_is_name (Z : Fx K mg base Ts fa fdd ca ta) {A : Around} {outer : List Env} {s : Shared} {H : Hp} {E : XK} {F0 : List Addr} (hr : Room 1 (A.deeper (envOfC "is_name" (defScope s12) s.heap.objs.size (fa 12) (.ref (ca 12))))) : ∃ κ, PDSs (cxOf CX0 P w K mg base N12 "is_name" (defScope s12) (fa 12) (.ref (ca 12)) A outer s H E).nox (cc0 ⟨K, Ts, g, sa, (n0 :: ns), 2⟩ H F0) κ (defBody s12) rd_is_name ∧ κ ≤ cost_is_name :=
  ⟨_, (ss_cons (s_if (PW.pt (w_or (t_not (t_val (d_isi (T := "str") (fun _ _ _ h => NA.kitStr h) (by rfl) Z.b_isinstance (PD.pp (d_var (pv 0))) (pe_bltn (by rfl) Z.b_str (by decide +kernel) (v := .ty "str") rfl)))) (w_or1 (t_not (t_chain (ol_le hr) oo_cmp (ol_le hr) oo_cmp (PD.pp d_int) (PD.pp (d_len (by rfl) Z.b_len (PD.pp (d_var (pv 0))))) (PD.pp d_int)))))) (ss_one (s_ret d_bl)) ss_nil) (ss_one (s_ret (d_all (own := [("sign", 1)]) (⟨hr, rfl, sc12.nd, Z.TB12, rfl, Z.hP12⟩ : Gxc _ _ _ _ _) (by rfl) Z.b_all (blkOk_by (N := N12) (sc := (defScope s12)) (by first | decide +kernel | kernel_rfl)) rfl (by decide +kernel) rfl (i_any_p (PD.pp (d_var (pv 0)))) (fun _ _ _ _ _ => (g_name (pg_name (i := 1) sc12.nd rfl (Or.inl rfl)))) (fun _ _ _ _ _ hr => ts_nil) (fun _ _ _ _ _ hr => (d_cmp (ol_in hr) oo_in (PD.pp (d_var (pv 1))) (PD.pp (d_c (pe_glob (v := .str "abcdefghijklmnopqrstuvwxyz") (by rfl) Z.k_SMALL_LETTERS.choose_spec ⟨_, rfl⟩) (fun _ => .str _))) (by first | rfl | with_unfolding_all rfl))) (by decide))))), by decide +kernel⟩
theorem ok_is_name (Z : Fx K mg base Ts fa fdd ca ta) : FnOk P w K mg base CX0 2 (fa 12) (fdd 12) p12 (spD ⟨K, Ts, g, sa, (n0 :: ns), 2⟩ cost_is_name sp_is_name) := okD Z.F12 Z.c12 sc12 c1 fun A outer s H E F0 hr => ⟨_, dv_is_name Z hr, fun ss R h => by
  obtain ⟨d, rfl, hl, h⟩ := sp1_ok h
  cases d with
  | str x =>
    have h' : R (.bool (decide (1 ≤ x.length) && (decide (x.length ≤ 8) && (signsD x).all smallS))) := h
    refine ⟨hl x rfl, ?_⟩
    rw [← castLe (m := 1), ← castLe (n := 8)] at h'
    refine ifE (b := decide ((1 : Int) ≤ (x.length : Int))) (fun e => ?_) (fun e => ?_)
    · have h2 : R (.bool (decide ((1 : Int) ≤ (x.length : Int)) && (decide ((x.length : Int) ≤ 8) && (signsD x).all smallS))) := h'
      rw [e, Bool.true_and] at h2
      refine ifNE (b := decide ((x.length : Int) ≤ 8)) (fun e => ?_) (fun e => ?_)
      · rw [e, Bool.false_and] at h2
        exact h2
      · rw [e, Bool.true_and] at h2
        refine aa_all (f := smallS) (fun d hd Q q => ?_) h2
        obtain ⟨c, rfl⟩ := sign_of hd
        exact ⟨rfl, q⟩
    · have h2 : R (.bool (decide ((1 : Int) ≤ (x.length : Int)) && (decide ((x.length : Int) ≤ 8) && (signsD x).all smallS))) := h'
      rw [e, Bool.false_and] at h2
      exact h2
  | _ => exact h⟩
end
def thingD (d : PyData) : Bool := match d with
  | .tuple [w, n, v] => (PyData.eqv w (.tuple []) || NA.dotD w) && (nameD n && NA.btwD v (-999) 999)
  | _ => false
/-! ### is_thing -/
@[reducible] def sp_is_thing : SpecD := sp1 fun d R => (∀ w n v x, d = .tuple [w, n, v] → n = .str x → x.length ≤ sizeLine) ∧ R (.bool (thingD d))
def cost_is_thing : Nat := 0
def rd_is_thing : DS := (seqS (ifS (notT (tr (callD sp_is_row (dSA (vD 0) (dSA (cD (.int 3)) nilSA))))) (retS (cD (.bool false))) nilS) (seqS (asgS (vD 0) (gTupD 3 (gConss (gN 1) (gConss (gN 2) (gConss (gN 3) gNils))))) (retS (andD (orD (oD eqO (vD 1) (tupD nilA)) (callD sp_is_dot (dSA (vD 1) nilSA))) (andD (callD sp_is_name (dSA (vD 2) nilSA)) (callD sp_is_between (dSA (vD 3) (dSA (negD (cD (.int 999))) (dSA (cD (.int 999)) nilSA)))))))))
section
variable {P : Program} {w : World} {K : PySem.W.Frag} {mg : Str → Option Value} {base : Heap} {Ts : List Addr} {fa : Nat → Addr} {fdd : Nat → FuncData} {ca ta : Nat → Addr} {g : Option Addr} {sa ga : Addr} {n0 : Int} {ns : List Int}
theorem dv_is_thing (Z : Fx K mg base Ts fa fdd ca ta) {A : Around} {outer : List Env} {s : Shared} {H : Hp} {E : XK} {F0 : List Addr} (hr : Room 5 (A.deeper (envOfC "is_thing" (defScope s13) s.heap.objs.size (fa 13) (.ref (ca 13))))) : ∃ κ, PDSs (cxOf CX0 P w K mg base N13 "is_thing" (defScope s13) (fa 13) (.ref (ca 13)) A outer s H E).nox (cc0 ⟨K, Ts, g, sa, (n0 :: ns), 2⟩ H F0) κ (defBody s13) rd_is_thing ∧ κ ≤ cost_is_thing :=
  ⟨_, (ss_cons (s_if (t_not (t_val (d_call (ok_is_row Z) (hr.mono (by decide)) rfl Z.g5 Z.F5.kp Z.b5 (sa_d (d_var (pv 0)) (sa_d d_int sa_nil))))) (ss_one (s_ret d_bl)) ss_nil) (ss_cons (s_asg (d_var (pv 0)) (g_tup rfl (g_cons (g_name (pg_name (i := 1) sc13.nd rfl (by first | exact Or.inl rfl | exact Or.inr rfl))) (g_cons (g_name (pg_name (i := 2) sc13.nd rfl (by first | exact Or.inl rfl | exact Or.inr rfl))) (g_cons (g_name (pg_name (i := 3) sc13.nd rfl (by first | exact Or.inl rfl | exact Or.inr rfl))) g_nil))))) (ss_one (s_ret (d_and (d_or (d_cmp (op_eqP hr) od_cmp (PD.pp (d_var (pv 1))) (PD.pp (d_tup a_nil)) (nomark _)) (d_one (d_call (ok_is_dot Z) (hr.mono (by decide)) rfl Z.g11 Z.F11.kp Z.b11 (sa_d (d_var (pv 1)) sa_nil)))) (d_and (d_call (ok_is_name Z) (hr.mono (by decide)) rfl Z.g12 Z.F12.kp Z.b12 (sa_d (d_var (pv 2)) sa_nil)) (d_one (d_call (ok_is_between Z) (hr.mono (by decide)) rfl Z.g3 Z.F3.kp Z.b3 (sa_d (d_var (pv 3)) (sa_d (d_neg (PD.pp d_int)) (sa_d d_int sa_nil))))))))))), by decide +kernel⟩
theorem ok_is_thing (Z : Fx K mg base Ts fa fdd ca ta) : FnOk P w K mg base CX0 6 (fa 13) (fdd 13) p13 (spD ⟨K, Ts, g, sa, (n0 :: ns), 2⟩ cost_is_thing sp_is_thing) := okD Z.F13 Z.c13 sc13 c1 fun A outer s H E F0 hr => ⟨_, dv_is_thing Z hr, fun ss R h => by
  obtain ⟨d, rfl, hl, h⟩ := sp1_ok h
  cases d with
  | tuple ds =>
    match ds with
    | [] => exact h
    | [x] => exact h
    | [x, y] => exact h
    | [w, n, v] =>
      have h' : R (.bool ((PyData.eqv w (.tuple []) || NA.dotD w) && (nameD n && NA.btwD v (-999) 999))) := h
      refine ⟨rfl, ?_⟩
      have dm : cMin w (.tuple []) := Nat.le_trans (Nat.min_le_right _ _) (by show 0 + 1 ≤ 64; decide)
      have rest : ∀ {Q : PyData → Prop}, Q (.bool (nameD n && NA.btwD v (-999) 999)) → sp_is_name [.d n] fun d => onB d fun c => if c = true then sp_is_between [.d v, .d (.int (-999)), .d (.int 999)] Q else Q (.bool false) := fun {Q} q => by
        refine ⟨fun x e => hl w n v x rfl e, ?_⟩
        refine ifE (b := nameD n) (fun e => ?_) (fun e => ?_)
        · rw [e, Bool.true_and] at q
          exact q
        · rw [e, Bool.false_and] at q
          exact q
      refine ⟨Nat.zero_le _, dm, ?_⟩
      refine ifE (b := PyData.eqv w (.tuple [])) (fun e => ?_) (fun e => ?_)
      · rw [e, Bool.true_or, Bool.true_and] at h'
        exact rest h'
      · rw [e, Bool.false_or] at h'
        refine ifE (b := NA.dotD w) (fun e => ?_) (fun e => ?_)
        · rw [e, Bool.true_and] at h'
          exact rest h'
        · rw [e, Bool.false_and] at h'
          exact h'
    | x :: y :: z :: u :: r =>
      exact h
  | _ => exact h⟩
end
theorem Cd.thing {d : PyData} (h : Cd d) : ∀ w n v x, d = .tuple [w, n, v] → n = .str x → x.length ≤ sizeLine := fun w n v x e e' => by
  subst e e'
  exact (h.mem (by simp)).txt
def p_is_held (d : PyData) : Bool := NA.rowD d 2 && (NA.dotD (ixD d 0) && thingD (ixD d 1))
def p_is_ack (d : PyData) : Bool := NA.rowD d 3 && (NA.seatD (ixD d 0) && (NA.fromD (ixD d 1) 0 && NA.btwD (ixD d 2) 0 (mTop (ixD d 0))))
def p_is_mark (d : PyData) : Bool := NA.rowD d 2 && (NA.dotD (ixD d 0) && rowsD p_is_ack (ixD d 1))
def p_is_fence (d : PyData) : Bool := NA.rowD d 2 && (NA.seatD (ixD d 0) && NA.fromD (ixD d 1) 1)
def p_is_cut (d : PyData) : Bool := NA.rowD d 2 && (NA.seatD (ixD d 0) && NA.btwD (ixD d 1) 0 (mTop (ixD d 0)))
abbrev c_is_held := Cd
abbrev c_is_ack := Cd
abbrev c_is_mark := Cd
abbrev c_is_fence := Cd
abbrev c_is_cut := Cd
theorem head_dot {f : PyData → Bool} {n : Int} {r : PyData → Bool} (hf : ∀ d, f d = (NA.rowD d n && (NA.dotD (ixD d 0) && r d))) : ∀ x, f x = true → ∃ h t, x = .tuple (h :: t) ∧ NA.dotD h = true := fun x hx => by
  rw [hf, Bool.and_eq_true, Bool.and_eq_true] at hx
  obtain ⟨ds, rfl, _⟩ := row_len hx.1
  cases ds with
  | nil => cases hx.2.1
  | cons h t => exact ⟨h, t, rfl, hx.2.1⟩
theorem head_seat {f : PyData → Bool} {n : Int} {r : PyData → Bool} (hf : ∀ d, f d = (NA.rowD d n && (NA.seatD (ixD d 0) && r d))) : ∀ x, f x = true → ∃ h t, x = .tuple (h :: t) ∧ NA.seatD h = true := fun x hx => by
  rw [hf, Bool.and_eq_true, Bool.and_eq_true] at hx
  obtain ⟨ds, rfl, _⟩ := row_len hx.1
  cases ds with
  | nil => cases hx.2.1
  | cons h t => exact ⟨h, t, rfl, hx.2.1⟩
theorem ord_is_held : OrdOk p_is_held := ord_dots (head_dot (n := 2) (r := fun d => thingD (ixD d 1)) fun _ => rfl)
theorem ord_is_mark : OrdOk p_is_mark := ord_dots (head_dot (n := 2) (r := fun d => rowsD p_is_ack (ixD d 1)) fun _ => rfl)
theorem ord_is_ack : OrdOk p_is_ack := ord_alike (head_seat (n := 3) (r := fun d => NA.fromD (ixD d 1) 0 && NA.btwD (ixD d 2) 0 (mTop (ixD d 0))) fun _ => rfl)
theorem ord_is_fence : OrdOk p_is_fence := ord_alike (head_seat (n := 2) (r := fun d => NA.fromD (ixD d 1) 1) fun _ => rfl)
theorem ord_is_cut : OrdOk p_is_cut := ord_alike (head_seat (n := 2) (r := fun d => NA.btwD (ixD d 1) 0 (mTop (ixD d 0))) fun _ => rfl)
/-! ### are_rows -/
@[reducible] def sp_are_rows (f : Addr) (cf : PyData → Prop) (pf : PyData → Bool) : SpecD := fun ss R => match ss with
  | [.d d, .fn f'] => f' = f ∧ (∀ ds, d = .tuple ds → ds.length ≤ 1000000 ∧ ∀ x ∈ ds, cf x) ∧ R (.bool (rowsD pf d))
  | _ => False
theorem sp_are_ok {f : Addr} {cf : PyData → Prop} {pf : PyData → Bool} {ss : List SV} {R : PyData → Prop} (h : sp_are_rows f cf pf ss R) : ∃ d, ss = [.d d, .fn f] ∧ (∀ ds, d = .tuple ds → ds.length ≤ 1000000 ∧ ∀ x ∈ ds, cf x) ∧ R (.bool (rowsD pf d)) := by
  unfold sp_are_rows at h
  split at h
  · obtain ⟨rfl, h⟩ := h
    exact ⟨_, rfl, h⟩
  · exact h.elim
theorem i_are {f : Addr} {pf : PyData → Bool} {d : PyData} {R : PyData → Prop} (hd : Cd d) (h : R (.bool (rowsD pf d))) : sp_are_rows f Cd pf [.d d, .fn f] R := ⟨rfl, fun ds e => by subst e; exact ⟨hd.len, fun x m => hd.mem m⟩, h⟩
def cost_are_rows : Nat := 0
def rd_are_rows (f : Addr) (spf : SpecD) : DS := (retS (andD (isiD NA.isT (vD 0)) (andD (aaN true (seqI (vD 0)) [2] (gN 2) yesT (callL 1 f spf (dSA (vD 2) nilSA))) (callD sp_rise (dSA (asL (lcN (seqI (vD 0)) [2] (gN 2) yesT (oD ixO (vD 2) (cD (.int 0))))) nilSA)))))
section
variable {P : Program} {w : World} {K : PySem.W.Frag} {mg : Str → Option Value} {base : Heap} {Ts : List Addr} {fa : Nat → Addr} {fdd : Nat → FuncData} {ca ta : Nat → Addr} {g : Option Addr} {sa ga : Addr} {n0 : Int} {ns : List Int}
theorem dv_are_rows (Z : Fx K mg base Ts fa fdd ca ta) {n : Nat} {f : Addr} {ffd : FuncData} {psf : List Str} {spf : SpecD} (okf : FnOk P w K mg base CX0 n f ffd psf (spD ⟨K, Ts, g, sa, (n0 :: ns), 2⟩ 0 spf)) (kpf : PySem.W.keepIn K (.ref f) = true) (bf : Binds K ffd psf []) {A : Around} {outer : List Env} {s : Shared} {H : Hp} {E : XK} {F0 : List Addr} (hr : Room (n + 2) (A.deeper (envOfC "are_rows" (defScope s7) s.heap.objs.size (fa 7) (.ref (ca 7))))) : ∃ κ, PDSs (cxOf CX0 P w K mg base N7 "are_rows" (defScope s7) (fa 7) (.ref (ca 7)) A outer s H E).nox (cc0 ⟨K, Ts, g, sa, (n0 :: ns), 2⟩ H F0) κ (defBody s7) (rd_are_rows f spf) ∧ κ ≤ cost_are_rows :=
  ⟨_, (ss_one (s_ret (d_and (d_isi (T := "tuple") (fun _ _ _ h => NA.kitTuple h) (by rfl) Z.b_isinstance (PD.pp (d_var (pv 0))) (pe_bltn (by rfl) Z.b_tuple (by decide +kernel) (v := .ty "tuple") rfl)) (d_and (d_all (own := [("row", 2)]) (⟨hr, rfl, sc7.nd, Z.TB7, rfl, Z.hP7⟩ : Gxc _ _ _ _ _) (by rfl) Z.b_all (blkOk_by (N := N7) (sc := (defScope s7)) (by first | decide +kernel | kernel_rfl)) rfl (by decide +kernel) rfl (i_any_p (PD.pp (d_var (pv 0)))) (fun _ _ _ _ _ => (g_name (pg_name (i := 2) sc7.nd rfl (Or.inl rfl)))) (fun _ _ _ _ _ hr => ts_nil) (fun _ _ _ _ _ hr => (d_callL (i := 1) okf (hr.mono (by omega)) rfl (by first | exact Or.inl rfl | exact Or.inr (Or.inl rfl) | exact Or.inr (Or.inr rfl)) kpf bf (sa_d (d_var (pv 2)) sa_nil))) (by decide)) (d_one (d_call (ok_rise Z) (hr.mono (by omega)) rfl Z.g6 Z.F6.kp Z.b6 (sa_d (PN.pd (n_lc (own := [("row", 2)]) rfl sc7.nd (i_any_p (PD.pp (d_var (pv 0)))) (blkOk_by (N := N7) (sc := (defScope s7)) (by first | decide +kernel | kernel_rfl)) (fun _ _ _ _ _ => (g_name (pg_name (i := 2) sc7.nd rfl (Or.inl rfl)))) (fun _ _ _ _ _ => ts_nil) (fun _ _ _ _ _ => (d_ix (PD.pp (d_var (pv 2))) (PD.pp d_int) (fun _ _ => rfl))) (by decide))) sa_nil))))))), by decide +kernel⟩
theorem ok_are_rows (Z : Fx K mg base Ts fa fdd ca ta) {n : Nat} {f : Addr} {ffd : FuncData} {psf : List Str} {cf : PyData → Prop} {pf : PyData → Bool} (okf : FnOk P w K mg base CX0 n f ffd psf (spD ⟨K, Ts, g, sa, (n0 :: ns), 2⟩ 0 (askC cf pf))) (kpf : PySem.W.keepIn K (.ref f) = true) (bf : Binds K ffd psf []) (hord : OrdOk pf) : FnOk P w K mg base CX0 (n + 3) (fa 7) (fdd 7) p7 (spD ⟨K, Ts, g, sa, (n0 :: ns), 2⟩ cost_are_rows (sp_are_rows f cf pf)) := okD Z.F7 Z.c7 sc7 (fun ss R h => by obtain ⟨d, rfl, _⟩ := sp_are_ok h; rfl) fun A outer s H E F0 hr => ⟨_, dv_are_rows Z okf kpf bf hr, fun ss R h => by
  obtain ⟨d, rfl, hl, h⟩ := sp_are_ok h
  cases d with
  | tuple ds =>
    obtain ⟨l, hc⟩ := hl ds rfl
    have h' : R (.bool (ds.all pf && riseB (ds.map headD))) := h
    unfold rd_are_rows
    decreasing_tactic
    refine aa_all (f := pf) (fun d m Q q => ?_) ?_
    · exact ⟨rfl, hc d m, q⟩
    decreasing_tactic
    refine and_step h' (fun e h' => ?_) (fun h' => h')
    have all := List.all_eq_true.mp e
    decreasing_tactic
    refine lc_mapD (f := headD) ds [] (by show 0 + _ < _; rw [Nat.zero_add]; exact fewer l) (fun d m Q q => ?_) ?_
    · obtain ⟨h1, r1, h2, r2, e1, e2, _⟩ := hord d d (all d m) (all d m)
      subst e1
      decreasing_tactic
      exact q
    · decreasing_tactic
      refine ⟨by rw [List.nil_append, List.length_map]; omega, fun x hx y hy => ?_, h'⟩
      obtain ⟨x, mx, rfl⟩ := List.mem_map.mp hx
      obtain ⟨y, my, rfl⟩ := List.mem_map.mp hy
      obtain ⟨h1, r1, h2, r2, rfl, rfl, c1, c2⟩ := hord x y (all x mx) (all y my)
      exact ⟨c1, c2⟩
  | _ => exact h⟩
end
def wordP (w n : PyData) : Bool := inD w (.tuple [.str "has", .str "left"]) || (PyData.eqv w (.str "cut") && PyData.eqv n (.int 0))
def p_is_paper_row (d : PyData) : Bool := match d with
  | .tuple [s, w, n, m] => NA.seatD s && (NA.fromD n 0 && (NA.btwD m 0 (mTop s) && wordP w n))
  | _ => false
abbrev c_is_paper_row := Cd
theorem row_head {d : PyData} (h : p_is_paper_row d = true) : ∃ s r, d = .tuple (s :: r) ∧ NA.seatD s = true := by
  unfold p_is_paper_row at h
  split at h
  · rw [Bool.and_eq_true] at h
    exact ⟨_, _, rfl, h.1⟩
  · cases h
theorem ord_is_paper_row : OrdOk p_is_paper_row := ord_alike fun x h => row_head h
theorem row_of {x y z w v : PyData} {r : List PyData} : NA.rowD (.tuple (x :: y :: z :: w :: v :: r)) 4 = false := by
  show decide (((x :: y :: z :: w :: v :: r).length : Int) = 4) = false
  exact decide_eq_false (by simp only [List.length_cons]; omega)
def dotsP (d : PyData) : Bool := match d with
  | .tuple ds => ds.all NA.dotD
  | _ => false
def namesP (d : PyData) : Bool := NA.rowD d 2 && (NA.seatD (ixD d 0) && NA.fromD (ixD d 1) 0)
def whatP (w x : PyData) : Bool := if PyData.eqv w (.str "put") = true then thingD x else if inD w (.tuple [.str "out", .str "drop"]) = true then NA.dotD x else if inD w (.tuple [.str "cut", .str "leave"]) = true then NA.seatD x else if PyData.eqv w (.str "tell") = true then dotsP x else PyData.eqv w (.str "take") && namesP x
def restP (w : PyData) (r : List PyData) : Bool := if inD w (.tuple [.str "bring", .str "fall"]) = true then r.isEmpty else if PyData.eqv w (.str "go") = true then (match r with | [x, p] => NA.dotD x && rowsD p_is_paper_row p | _ => false) else (match r with | [x] => whatP w x | _ => false)
def deedP (d : PyData) : Bool := match d with
  | .tuple (w :: s :: r) => NA.seatD s && restP w r
  | _ => false
/-! ### is_paper_row -/
@[reducible] def sp_is_paper_row : SpecD := askC Cd p_is_paper_row
def cost_is_paper_row : Nat := 0
def rd_is_paper_row : DS := (seqS (ifS (orT (notT (tr (callD sp_is_row (dSA (vD 0) (dSA (cD (.int 4)) nilSA))))) (notT (tr (callD sp_is_seat (dSA (oD ixO (vD 0) (cD (.int 0))) nilSA))))) (retS (cD (.bool false))) nilS) (seqS (asgS (vD 0) (gTupD 4 (gConss (gN 1) (gConss (gN 2) (gConss (gN 3) (gConss (gN 4) gNils)))))) (seqS (ifS (orT (notT (tr (callD sp_is_from (dSA (vD 3) (dSA (cD (.int 0)) nilSA))))) (notT (tr (callD sp_is_m (dSA (vD 4) (dSA (vD 1) nilSA)))))) (retS (cD (.bool false))) nilS) (retS (orD (oD inO (vD 2) (tupD (consA (cD (.str "has")) (consA (cD (.str "left")) nilA)))) (andD (oD eqO (vD 2) (cD (.str "cut"))) (oD eqO (vD 3) (cD (.int 0)))))))))
section
variable {P : Program} {w : World} {K : PySem.W.Frag} {mg : Str → Option Value} {base : Heap} {Ts : List Addr} {fa : Nat → Addr} {fdd : Nat → FuncData} {ca ta : Nat → Addr} {g : Option Addr} {sa ga : Addr} {n0 : Int} {ns : List Int}
theorem dv_is_paper_row (Z : Fx K mg base Ts fa fdd ca ta) {A : Around} {outer : List Env} {s : Shared} {H : Hp} {E : XK} {F0 : List Addr} (hr : Room 4 (A.deeper (envOfC "is_paper_row" (defScope s15) s.heap.objs.size (fa 15) (.ref (ca 15))))) : ∃ κ, PDSs (cxOf CX0 P w K mg base N15 "is_paper_row" (defScope s15) (fa 15) (.ref (ca 15)) A outer s H E).nox (cc0 ⟨K, Ts, g, sa, (n0 :: ns), 2⟩ H F0) κ (defBody s15) rd_is_paper_row ∧ κ ≤ cost_is_paper_row :=
  ⟨_, (ss_cons (s_if (PW.pt (w_or (t_not (t_val (d_call (ok_is_row Z) (hr.mono (by decide)) rfl Z.g5 Z.F5.kp Z.b5 (sa_d (d_var (pv 0)) (sa_d d_int sa_nil))))) (w_or1 (t_not (t_val (d_call (ok_is_seat Z) (hr.mono (by decide)) rfl Z.g10 Z.F10.kp Z.b10 (sa_d (d_ix (PD.pp (d_var (pv 0))) (PD.pp d_int) (fun _ _ => rfl)) sa_nil))))))) (ss_one (s_ret d_bl)) ss_nil) (ss_cons (s_asg (d_var (pv 0)) (g_tup rfl (g_cons (g_name (pg_name (i := 1) sc15.nd rfl (by first | exact Or.inl rfl | exact Or.inr rfl))) (g_cons (g_name (pg_name (i := 2) sc15.nd rfl (by first | exact Or.inl rfl | exact Or.inr rfl))) (g_cons (g_name (pg_name (i := 3) sc15.nd rfl (by first | exact Or.inl rfl | exact Or.inr rfl))) (g_cons (g_name (pg_name (i := 4) sc15.nd rfl (by first | exact Or.inl rfl | exact Or.inr rfl))) g_nil)))))) (ss_cons (s_if (PW.pt (w_or (t_not (t_val (d_call (ok_is_from Z) (hr.mono (by decide)) rfl Z.g2 Z.F2.kp Z.b2 (sa_d (d_var (pv 3)) (sa_d d_int sa_nil))))) (w_or1 (t_not (t_val (d_call (ok_is_m Z) (hr.mono (by decide)) rfl Z.g4 Z.F4.kp Z.b4 (sa_d (d_var (pv 4)) (sa_d (d_var (pv 1)) sa_nil)))))))) (ss_one (s_ret d_bl)) ss_nil) (ss_one (s_ret (d_or (d_cmp (ol_in hr) oo_in (PD.pp (d_var (pv 2))) (PD.pp (d_tup (a_cons d_str (a_cons d_str a_nil)))) (by first | rfl | with_unfolding_all rfl)) (d_one (d_and (d_cmp (op_eqP hr) od_cmp (PD.pp (d_var (pv 2))) (PD.pp d_str) (nomark _)) (d_one (d_cmp (op_eqP hr) od_cmp (PD.pp (d_var (pv 3))) (PD.pp d_int) (nomark _))))))))))), by decide +kernel⟩
theorem ok_is_paper_row (Z : Fx K mg base Ts fa fdd ca ta) : FnOk P w K mg base CX0 5 (fa 15) (fdd 15) p15 (spD ⟨K, Ts, g, sa, (n0 :: ns), 2⟩ cost_is_paper_row sp_is_paper_row) := okD Z.F15 Z.c15 sc15 c1 fun A outer s H E F0 hr => ⟨_, dv_is_paper_row Z hr, fun ss R h => by
  obtain ⟨d, rfl, hd, h⟩ := sp1_ok h
  cases d with
  | tuple ds =>
    match ds with
    | [] => exact h
    | [_] => exact h
    | [_, _] => exact h
    | [_, _, _] => exact h
    | [s, w, n, m] =>
      have h' : R (.bool (NA.seatD s && (NA.fromD n 0 && (NA.btwD m 0 (mTop s) && wordP w n)))) := h
      have hw : w.depth ≤ 64 := (show Cd w from hd.mem (by simp)).depth
      unfold rd_is_paper_row
      decreasing_tactic
      refine ifNE (b := NA.seatD s) (fun e => by rw [e] at h'; exact h') (fun e => ?_)
      rw [e, Bool.true_and] at h'
      obtain ⟨x, r, rfl⟩ := seat_tup e
      decreasing_tactic
      refine ifNE (b := NA.fromD n 0) (fun e => by rw [e] at h'; exact h') (fun e => ?_)
      rw [e, Bool.true_and] at h'
      decreasing_tactic
      refine ifNE (b := NA.btwD m 0 (mTop (.tuple (x :: r)))) (fun e => by rw [e] at h'; exact h') (fun e => ?_)
      rw [e, Bool.true_and] at h'
      decreasing_tactic
      refine ⟨⟨_, rfl, hw⟩, ?_⟩
      unfold wordP at h'
      refine ifE (b := inD w (.tuple [.str "has", .str "left"])) (fun e => by rw [e] at h'; exact h') (fun e => ?_)
      rw [e, Bool.false_or] at h'
      decreasing_tactic
      refine ifE (b := PyData.eqv w (.str "cut")) (fun e => ?_) (fun e => by rw [e] at h'; exact h')
      rw [e, Bool.true_and] at h'
      decreasing_tactic
      exact h'
    | s :: w :: n :: m :: x :: r =>
      unfold rd_is_paper_row
      decreasing_tactic
      exact h
  | _ => exact h⟩
end
/-! ### is_paper -/
@[reducible] def sp_is_paper : SpecD := askC Cd (rowsD p_is_paper_row)
def cost_is_paper : Nat := 0
def rd_is_paper (fa : Nat → Addr) : DS := (retS (callD (sp_are_rows (fa 15) c_is_paper_row p_is_paper_row) (dSA (vD 0) (fnSA (fa 15) nilSA))))
section
variable {P : Program} {w : World} {K : PySem.W.Frag} {mg : Str → Option Value} {base : Heap} {Ts : List Addr} {fa : Nat → Addr} {fdd : Nat → FuncData} {ca ta : Nat → Addr} {g : Option Addr} {sa ga : Addr} {n0 : Int} {ns : List Int}
theorem dv_is_paper (Z : Fx K mg base Ts fa fdd ca ta) {A : Around} {outer : List Env} {s : Shared} {H : Hp} {E : XK} {F0 : List Addr} (hr : Room 8 (A.deeper (envOfC "is_paper" (defScope s16) s.heap.objs.size (fa 16) (.ref (ca 16))))) : ∃ κ, PDSs (cxOf CX0 P w K mg base N16 "is_paper" (defScope s16) (fa 16) (.ref (ca 16)) A outer s H E).nox (cc0 ⟨K, Ts, g, sa, (n0 :: ns), 2⟩ H F0) κ (defBody s16) (rd_is_paper fa) ∧ κ ≤ cost_is_paper :=
  ⟨_, (ss_one (s_ret (d_call (ok_are_rows Z (ok_is_paper_row Z) Z.F15.kp Z.b15 ord_is_paper_row) (hr.mono (by decide)) rfl Z.g7 Z.F7.kp Z.b7 (sa_d (d_var (pv 0)) (sa_fn (pe_glob (v := .ref (fa 15)) (by rfl) Z.g15 rfl) sa_nil))))), by decide +kernel⟩
theorem ok_is_paper (Z : Fx K mg base Ts fa fdd ca ta) : FnOk P w K mg base CX0 9 (fa 16) (fdd 16) p16 (spD ⟨K, Ts, g, sa, (n0 :: ns), 2⟩ cost_is_paper sp_is_paper) := okD Z.F16 Z.c16 sc16 c1 fun A outer s H E F0 hr => ⟨_, dv_is_paper Z hr, fun ss R h => by
  obtain ⟨d, rfl, hc, h⟩ := sp1_ok h
  unfold rd_is_paper
  decreasing_tactic
  exact i_are hc h⟩
end
/-! ### are_dots -/
@[reducible] def sp_are_dots : SpecD := askC Cd dotsP
def cost_are_dots : Nat := 0
def rd_are_dots : DS := (retS (andD (isiD NA.isT (vD 0)) (aaN true (seqI (vD 0)) [1] (gN 1) yesT (callD sp_is_dot (dSA (vD 1) nilSA)))))
section
variable {P : Program} {w : World} {K : PySem.W.Frag} {mg : Str → Option Value} {base : Heap} {Ts : List Addr} {fa : Nat → Addr} {fdd : Nat → FuncData} {ca ta : Nat → Addr} {g : Option Addr} {sa ga : Addr} {n0 : Int} {ns : List Int}
theorem dv_are_dots (Z : Fx K mg base Ts fa fdd ca ta) {A : Around} {outer : List Env} {s : Shared} {H : Hp} {E : XK} {F0 : List Addr} (hr : Room 6 (A.deeper (envOfC "are_dots" (defScope s18) s.heap.objs.size (fa 18) (.ref (ca 18))))) : ∃ κ, PDSs (cxOf CX0 P w K mg base N18 "are_dots" (defScope s18) (fa 18) (.ref (ca 18)) A outer s H E).nox (cc0 ⟨K, Ts, g, sa, (n0 :: ns), 2⟩ H F0) κ (defBody s18) rd_are_dots ∧ κ ≤ cost_are_dots :=
  ⟨_, (ss_one (s_ret (d_and (d_isi (T := "tuple") (fun _ _ _ h => NA.kitTuple h) (by rfl) Z.b_isinstance (PD.pp (d_var (pv 0))) (pe_bltn (by rfl) Z.b_tuple (by decide +kernel) (v := .ty "tuple") rfl)) (d_one (d_all (own := [("dot", 1)]) (⟨hr, rfl, sc18.nd, Z.TB18, rfl, Z.hP18⟩ : Gxc _ _ _ _ _) (by rfl) Z.b_all (blkOk_by (N := N18) (sc := (defScope s18)) (by first | decide +kernel | kernel_rfl)) rfl (by decide +kernel) rfl (i_any_p (PD.pp (d_var (pv 0)))) (fun _ _ _ _ _ => (g_name (pg_name (i := 1) sc18.nd rfl (Or.inl rfl)))) (fun _ _ _ _ _ hr => ts_nil) (fun _ _ _ _ _ hr => (d_call (ok_is_dot Z) (hr.mono (by decide)) rfl Z.g11 Z.F11.kp Z.b11 (sa_d (d_var (pv 1)) sa_nil))) (by decide)))))), by decide +kernel⟩
theorem ok_are_dots (Z : Fx K mg base Ts fa fdd ca ta) : FnOk P w K mg base CX0 7 (fa 18) (fdd 18) p18 (spD ⟨K, Ts, g, sa, (n0 :: ns), 2⟩ cost_are_dots sp_are_dots) := okD Z.F18 Z.c18 sc18 c1 fun A outer s H E F0 hr => ⟨_, dv_are_dots Z hr, fun ss R h => by
  obtain ⟨d, rfl, hc, h⟩ := sp1_ok h
  cases d with
  | tuple ds =>
    unfold rd_are_dots
    decreasing_tactic
    refine aa_all (f := NA.dotD) (fun d m Q q => ?_) h
    decreasing_tactic
    exact q
  | _ => exact h⟩
end
/-! ### names_letter -/
@[reducible] def sp_names_letter : SpecD := askC Cd namesP
def cost_names_letter : Nat := 0
def rd_names_letter : DS := (retS (andD (callD sp_is_row (dSA (vD 0) (dSA (cD (.int 2)) nilSA))) (andD (callD sp_is_seat (dSA (oD ixO (vD 0) (cD (.int 0))) nilSA)) (callD sp_is_from (dSA (oD ixO (vD 0) (cD (.int 1))) (dSA (cD (.int 0)) nilSA))))))
section
variable {P : Program} {w : World} {K : PySem.W.Frag} {mg : Str → Option Value} {base : Heap} {Ts : List Addr} {fa : Nat → Addr} {fdd : Nat → FuncData} {ca ta : Nat → Addr} {g : Option Addr} {sa ga : Addr} {n0 : Int} {ns : List Int}
theorem dv_names_letter (Z : Fx K mg base Ts fa fdd ca ta) {A : Around} {outer : List Env} {s : Shared} {H : Hp} {E : XK} {F0 : List Addr} (hr : Room 4 (A.deeper (envOfC "names_letter" (defScope s19) s.heap.objs.size (fa 19) (.ref (ca 19))))) : ∃ κ, PDSs (cxOf CX0 P w K mg base N19 "names_letter" (defScope s19) (fa 19) (.ref (ca 19)) A outer s H E).nox (cc0 ⟨K, Ts, g, sa, (n0 :: ns), 2⟩ H F0) κ (defBody s19) rd_names_letter ∧ κ ≤ cost_names_letter :=
  ⟨_, (ss_one (s_ret (d_and (d_call (ok_is_row Z) (hr.mono (by decide)) rfl Z.g5 Z.F5.kp Z.b5 (sa_d (d_var (pv 0)) (sa_d d_int sa_nil))) (d_and (d_call (ok_is_seat Z) (hr.mono (by decide)) rfl Z.g10 Z.F10.kp Z.b10 (sa_d (d_ix (PD.pp (d_var (pv 0))) (PD.pp d_int) (fun _ _ => rfl)) sa_nil)) (d_one (d_call (ok_is_from Z) (hr.mono (by decide)) rfl Z.g2 Z.F2.kp Z.b2 (sa_d (d_ix (PD.pp (d_var (pv 0))) (PD.pp d_int) (fun _ _ => rfl)) (sa_d d_int sa_nil)))))))), by decide +kernel⟩
theorem ok_names_letter (Z : Fx K mg base Ts fa fdd ca ta) : FnOk P w K mg base CX0 5 (fa 19) (fdd 19) p19 (spD ⟨K, Ts, g, sa, (n0 :: ns), 2⟩ cost_names_letter sp_names_letter) := okD Z.F19 Z.c19 sc19 c1 fun A outer s H E F0 hr => ⟨_, dv_names_letter Z hr, fun ss R h => by
  obtain ⟨d, rfl, hc, h⟩ := sp1_ok h
  unfold namesP at h
  unfold rd_names_letter
  decreasing_tactic
  refine and_step h (fun e h => ?_) (fun h => h)
  obtain ⟨x, y, rfl⟩ := row2 e
  decreasing_tactic
  refine and_step h (fun e h => ?_) (fun h => h)
  decreasing_tactic
  exact h⟩
end
/-! ### is_what -/
@[reducible] def sp_is_what : SpecD := sp2 fun w d R => Cd w ∧ Cd d ∧ R (.bool (whatP w d))
theorem if_is {b : Bool} {x y : Bool} {R : PyData → Prop} {A B : Prop} (h : R (.bool (if b = true then x else y))) (hA : b = true → R (.bool x) → A) (hB : b = false → R (.bool y) → B) : if b = true then A else B := by
  cases b with
  | true => exact hA rfl h
  | false => exact hB rfl h
def cost_is_what : Nat := 0
def rd_is_what : DS := (seqS (ifS (tr (oD eqO (vD 0) (cD (.str "put")))) (retS (callD sp_is_thing (dSA (vD 1) nilSA))) nilS) (seqS (ifS (tr (oD inO (vD 0) (tupD (consA (cD (.str "out")) (consA (cD (.str "drop")) nilA))))) (retS (callD sp_is_dot (dSA (vD 1) nilSA))) nilS) (seqS (ifS (tr (oD inO (vD 0) (tupD (consA (cD (.str "cut")) (consA (cD (.str "leave")) nilA))))) (retS (callD sp_is_seat (dSA (vD 1) nilSA))) nilS) (seqS (ifS (tr (oD eqO (vD 0) (cD (.str "tell")))) (retS (callD sp_are_dots (dSA (vD 1) nilSA))) nilS) (retS (andD (oD eqO (vD 0) (cD (.str "take"))) (callD sp_names_letter (dSA (vD 1) nilSA))))))))
section
variable {P : Program} {w : World} {K : PySem.W.Frag} {mg : Str → Option Value} {base : Heap} {Ts : List Addr} {fa : Nat → Addr} {fdd : Nat → FuncData} {ca ta : Nat → Addr} {g : Option Addr} {sa ga : Addr} {n0 : Int} {ns : List Int}
theorem dv_is_what (Z : Fx K mg base Ts fa fdd ca ta) {A : Around} {outer : List Env} {s : Shared} {H : Hp} {E : XK} {F0 : List Addr} (hr : Room 7 (A.deeper (envOfC "is_what" (defScope s20) s.heap.objs.size (fa 20) (.ref (ca 20))))) : ∃ κ, PDSs (cxOf CX0 P w K mg base N20 "is_what" (defScope s20) (fa 20) (.ref (ca 20)) A outer s H E).nox (cc0 ⟨K, Ts, g, sa, (n0 :: ns), 2⟩ H F0) κ (defBody s20) rd_is_what ∧ κ ≤ cost_is_what :=
  ⟨_, (ss_cons (s_if (t_cmp (op_eqP hr) od_cmp (PD.pp (d_var (pv 0))) (PD.pp d_str) (nomark _)) (ss_one (s_ret (d_call (ok_is_thing Z) (hr.mono (by decide)) rfl Z.g13 Z.F13.kp Z.b13 (sa_d (d_var (pv 1)) sa_nil)))) ss_nil) (ss_cons (s_if (t_cmp (ol_in hr) oo_in (PD.pp (d_var (pv 0))) (PD.pp (d_tup (a_cons d_str (a_cons d_str a_nil)))) (by first | rfl | with_unfolding_all rfl)) (ss_one (s_ret (d_call (ok_is_dot Z) (hr.mono (by decide)) rfl Z.g11 Z.F11.kp Z.b11 (sa_d (d_var (pv 1)) sa_nil)))) ss_nil) (ss_cons (s_if (t_cmp (ol_in hr) oo_in (PD.pp (d_var (pv 0))) (PD.pp (d_tup (a_cons d_str (a_cons d_str a_nil)))) (by first | rfl | with_unfolding_all rfl)) (ss_one (s_ret (d_call (ok_is_seat Z) (hr.mono (by decide)) rfl Z.g10 Z.F10.kp Z.b10 (sa_d (d_var (pv 1)) sa_nil)))) ss_nil) (ss_cons (s_if (t_cmp (op_eqP hr) od_cmp (PD.pp (d_var (pv 0))) (PD.pp d_str) (nomark _)) (ss_one (s_ret (d_call (ok_are_dots Z) (hr.mono (by decide)) rfl Z.g18 Z.F18.kp Z.b18 (sa_d (d_var (pv 1)) sa_nil)))) ss_nil) (ss_one (s_ret (d_and (d_cmp (op_eqP hr) od_cmp (PD.pp (d_var (pv 0))) (PD.pp d_str) (nomark _)) (d_one (d_call (ok_names_letter Z) (hr.mono (by decide)) rfl Z.g19 Z.F19.kp Z.b19 (sa_d (d_var (pv 1)) sa_nil)))))))))), by decide +kernel⟩
theorem ok_is_what (Z : Fx K mg base Ts fa fdd ca ta) : FnOk P w K mg base CX0 8 (fa 20) (fdd 20) p20 (spD ⟨K, Ts, g, sa, (n0 :: ns), 2⟩ cost_is_what sp_is_what) := okD Z.F20 Z.c20 sc20 c2 fun A outer s H E F0 hr => ⟨_, dv_is_what Z hr, fun ss R h => by
  obtain ⟨w, d, rfl, hw, hc, h⟩ := sp2_ok h
  unfold whatP at h
  unfold rd_is_what
  decreasing_tactic
  refine if_is h (fun e h => ?_) (fun e h => ?_)
  · decreasing_tactic
    exact ⟨Cd.thing hc, h⟩
  decreasing_tactic
  refine ⟨⟨_, rfl, hw.depth⟩, ?_⟩
  refine if_is h (fun e h => ?_) (fun e h => ?_)
  · decreasing_tactic
    exact h
  decreasing_tactic
  refine ⟨⟨_, rfl, hw.depth⟩, ?_⟩
  refine if_is h (fun e h => ?_) (fun e h => ?_)
  · decreasing_tactic
    exact h
  decreasing_tactic
  refine if_is h (fun e h => ?_) (fun e h => ?_)
  · decreasing_tactic
    exact ⟨hc, h⟩
  decreasing_tactic
  refine and_step h (fun e h => ?_) (fun h => h)
  decreasing_tactic
  exact ⟨hc, h⟩⟩
end
/-! ### is_deed -/
@[reducible] def sp_is_deed : SpecD := askC Cd deedP
theorem short2 {w s : PyData} {r : List PyData} : decide (((w :: s :: r).length : Int) < 2) = false := decide_eq_false (by simp only [List.length_cons]; omega)
def cost_is_deed : Nat := 0
def rd_is_deed : DS := (seqS (ifS (orT (notT (tr (isiD NA.isT (vD 0)))) (orT (tr (oD ltO (b1D lenO (vD 0)) (cD (.int 2)))) (notT (tr (callD sp_is_seat (dSA (oD ixO (vD 0) (cD (.int 1))) nilSA)))))) (retS (cD (.bool false))) nilS) (seqS (asgS (oD ixO (vD 0) (cD (.int 0))) (gN 1)) (seqS (ifS (tr (oD inO (vD 1) (tupD (consA (cD (.str "bring")) (consA (cD (.str "fall")) nilA))))) (retS (oD eqO (b1D lenO (vD 0)) (cD (.int 2)))) nilS) (seqS (ifS (tr (oD eqO (vD 1) (cD (.str "go")))) (retS (andD (oD eqO (b1D lenO (vD 0)) (cD (.int 4))) (andD (callD sp_is_dot (dSA (oD ixO (vD 0) (cD (.int 2))) nilSA)) (callD sp_is_paper (dSA (oD ixO (vD 0) (cD (.int 3))) nilSA))))) nilS) (retS (andD (oD eqO (b1D lenO (vD 0)) (cD (.int 3))) (callD sp_is_what (dSA (vD 1) (dSA (oD ixO (vD 0) (cD (.int 2))) nilSA)))))))))
section
variable {P : Program} {w : World} {K : PySem.W.Frag} {mg : Str → Option Value} {base : Heap} {Ts : List Addr} {fa : Nat → Addr} {fdd : Nat → FuncData} {ca ta : Nat → Addr} {g : Option Addr} {sa ga : Addr} {n0 : Int} {ns : List Int}
theorem dv_is_deed (Z : Fx K mg base Ts fa fdd ca ta) {A : Around} {outer : List Env} {s : Shared} {H : Hp} {E : XK} {F0 : List Addr} (hr : Room 9 (A.deeper (envOfC "is_deed" (defScope s21) s.heap.objs.size (fa 21) (.ref (ca 21))))) : ∃ κ, PDSs (cxOf CX0 P w K mg base N21 "is_deed" (defScope s21) (fa 21) (.ref (ca 21)) A outer s H E).nox (cc0 ⟨K, Ts, g, sa, (n0 :: ns), 2⟩ H F0) κ (defBody s21) rd_is_deed ∧ κ ≤ cost_is_deed :=
  ⟨_, (ss_cons (s_if (PW.pt (w_or (t_not (t_val (d_isi (T := "tuple") (fun _ _ _ h => NA.kitTuple h) (by rfl) Z.b_isinstance (PD.pp (d_var (pv 0))) (pe_bltn (by rfl) Z.b_tuple (by decide +kernel) (v := .ty "tuple") rfl)))) (w_or (t_cmp (ol_lt hr) oo_cmp (PD.pp (d_len (by rfl) Z.b_len (PD.pp (d_var (pv 0))))) (PD.pp d_int) (nomark _)) (w_or1 (t_not (t_val (d_call (ok_is_seat Z) (hr.mono (by decide)) rfl Z.g10 Z.F10.kp Z.b10 (sa_d (d_ix (PD.pp (d_var (pv 0))) (PD.pp d_int) (fun _ _ => rfl)) sa_nil)))))))) (ss_one (s_ret d_bl)) ss_nil) (ss_cons (s_asg (d_ix (PD.pp (d_var (pv 0))) (PD.pp d_int) (fun _ _ => rfl)) (g_name (pg_name (i := 1) sc21.nd rfl (by first | exact Or.inl rfl | exact Or.inr rfl)))) (ss_cons (s_if (t_cmp (ol_in hr) oo_in (PD.pp (d_var (pv 1))) (PD.pp (d_tup (a_cons d_str (a_cons d_str a_nil)))) (by first | rfl | with_unfolding_all rfl)) (ss_one (s_ret (d_cmp (op_eqP hr) od_cmp (PD.pp (d_len (by rfl) Z.b_len (PD.pp (d_var (pv 0))))) (PD.pp d_int) (nomark _)))) ss_nil) (ss_cons (s_if (t_cmp (op_eqP hr) od_cmp (PD.pp (d_var (pv 1))) (PD.pp d_str) (nomark _)) (ss_one (s_ret (d_and (d_cmp (op_eqP hr) od_cmp (PD.pp (d_len (by rfl) Z.b_len (PD.pp (d_var (pv 0))))) (PD.pp d_int) (nomark _)) (d_and (d_call (ok_is_dot Z) (hr.mono (by decide)) rfl Z.g11 Z.F11.kp Z.b11 (sa_d (d_ix (PD.pp (d_var (pv 0))) (PD.pp d_int) (fun _ _ => rfl)) sa_nil)) (d_one (d_call (ok_is_paper Z) (hr.mono (by decide)) rfl Z.g16 Z.F16.kp Z.b16 (sa_d (d_ix (PD.pp (d_var (pv 0))) (PD.pp d_int) (fun _ _ => rfl)) sa_nil))))))) ss_nil) (ss_one (s_ret (d_and (d_cmp (op_eqP hr) od_cmp (PD.pp (d_len (by rfl) Z.b_len (PD.pp (d_var (pv 0))))) (PD.pp d_int) (nomark _)) (d_one (d_call (ok_is_what Z) (hr.mono (by decide)) rfl Z.g20 Z.F20.kp Z.b20 (sa_d (d_var (pv 1)) (sa_d (d_ix (PD.pp (d_var (pv 0))) (PD.pp d_int) (fun _ _ => rfl)) sa_nil))))))))))), by decide +kernel⟩
theorem ok_is_deed (Z : Fx K mg base Ts fa fdd ca ta) : FnOk P w K mg base CX0 10 (fa 21) (fdd 21) p21 (spD ⟨K, Ts, g, sa, (n0 :: ns), 2⟩ cost_is_deed sp_is_deed) := okD Z.F21 Z.c21 sc21 c1 fun A outer s H E F0 hr => ⟨_, dv_is_deed Z hr, fun ss R h => by
  obtain ⟨d, rfl, hc, h⟩ := sp1_ok h
  cases d with
  | tuple ds =>
    match ds with
    | [] => exact h
    | [x] => exact h
    | w :: s :: r =>
      have h' : R (.bool (NA.seatD s && restP w r)) := h
      have hw : Cd w := hc.mem (by simp)
      unfold rd_is_deed
      decreasing_tactic
      refine nand_step h' (fun e h' => ?_) (fun h' => h')
      unfold restP at h'
      decreasing_tactic
      refine ⟨⟨_, rfl, hw.depth⟩, ?_⟩
      refine if_is h' (fun e h' => ?_) (fun e h' => ?_)
      · decreasing_tactic
        cases r with
        | nil => exact h'
        | cons x r =>
          rw [show PyData.eqv (.int ((w :: s :: x :: r).length : Int)) (.int 2) = false from beq_eq_false_iff_ne.mpr (by simp only [List.length_cons]; omega)]
          exact h'
      decreasing_tactic
      refine if_is h' (fun e h' => ?_) (fun e h' => ?_)
      · decreasing_tactic
        match r with
        | [] => exact h'
        | [x] => exact h'
        | [x, p] =>
          refine ifT (by rfl) ?_
          decreasing_tactic
          refine and_step h' (fun e h' => ?_) (fun h' => h')
          decreasing_tactic
          exact ⟨hc.mem (by simp), h'⟩
        | x :: y :: z :: r =>
          refine ifF (beq_eq_false_iff_ne.mpr (by simp only [List.length_cons]; omega)) ?_
          exact h'
      decreasing_tactic
      match r with
      | [] => exact h'
      | [x] =>
        refine ifT (by rfl) ?_
        decreasing_tactic
        exact ⟨hw, hc.mem (by simp), h'⟩
      | x :: y :: r =>
        refine ifF (beq_eq_false_iff_ne.mpr (by simp only [List.length_cons]; omega)) ?_
        exact h'
  | _ => exact h⟩
end
end K62

namespace K62
open PySem PySem.Spec PyProof.Rows L2 GX DL
local macro_rules | `(tactic| decreasing_tactic) => `(tactic| (repeat (first | with_reducible refine i_seq ?_ | with_reducible refine i_ret ?_ | with_reducible refine i_retN ?_ | with_reducible refine i_nil ?_ | with_reducible refine i_if ?_ | with_reducible refine i_asg ?_ | with_reducible refine i_own ?_ | with_reducible refine i_for ?_ | with_reducible refine i_forL ?_ | with_reducible refine i_c ?_ | with_reducible refine i_o ?_ | with_reducible refine i_ch ?_ | with_reducible refine i_tr ?_ | with_reducible refine i_tru ?_ | with_reducible refine i_andT ?_ | with_reducible refine i_orT ?_ | with_reducible refine i_notT ?_ | with_reducible refine i_andD ?_ | with_reducible refine i_orD ?_ | with_reducible refine i_notD ?_ | with_reducible refine i_ifD ?_ | with_reducible refine i_isi ?_ | with_reducible refine i_b1 ?_ | with_reducible refine i_m1 ?_ | with_reducible refine i_neg ?_ | with_reducible refine i_call ?_ | with_reducible refine i_dSA ?_ | with_reducible refine i_fnSA ?_ | with_reducible refine i_nilSA ?_ | with_reducible refine i_tup ?_ | with_reducible refine i_lst ?_ | with_reducible refine i_asL ?_ | with_reducible refine i_nilA ?_ | with_reducible refine i_consA ?_ | with_reducible refine i_sl ?_ | with_reducible refine i_slN ?_ | with_reducible refine i_noO ?_ | with_reducible refine i_someO ?_ | with_reducible refine i_rev ?_ | with_reducible refine i_gN ?_ | with_reducible refine i_gC ?_ | with_reducible refine i_gNil ?_ | with_reducible refine i_lc ?_ | with_reducible refine i_lcL ?_ | with_reducible refine i_aa ?_ | with_reducible refine i_tupN ?_ | with_reducible refine i_seqI ?_ | with_reducible refine i_rg1 ?_ | with_reducible refine i_rg2 ?_ | with_reducible refine i_cat ?_ | with_reducible refine i_list1 ?_ | with_reducible refine i_sort ?_ | with_reducible refine i_yes ?_ | with_reducible refine i_onB ?_ | with_reducible refine i_onI ?_ | with_reducible refine i_onS ?_ | with_reducible refine i_onT ?_ | with_reducible refine i_onL ?_ | with_reducible refine i_wT ?_ | with_reducible refine i_wL ?_ | with_reducible refine i_wS ?_ | with_reducible refine i_itT ?_ | with_reducible refine i_itL ?_ | with_reducible refine i_lenT ?_ | with_reducible refine i_lenL ?_ | with_reducible refine i_ix0 ?_ | with_reducible refine i_ix1 ?_ | with_reducible refine i_ix2 ?_ | with_reducible refine i_ix3 ?_ | with_reducible refine i_tuple1L ?_ | with_reducible refine i_tuple1T ?_ | with_reducible refine i_addI ?_ | with_reducible refine i_subI ?_ | with_reducible refine i_ltI ?_ | with_reducible refine i_intB ?_ | with_reducible refine i_s1 ?_ | with_reducible refine i_s2 ?_ | with_reducible refine i_s3 ?_ | with_reducible refine i_sF0 ?_ | with_reducible refine i_sF1 ?_ | with_reducible refine i_tt ?_ | with_reducible refine i_ff ?_ | with_reducible refine i_ntt ?_ | with_reducible refine i_nff ?_ | with_reducible refine i_dict ?_ | with_reducible refine i_rep ?_ | with_reducible refine i_slL ?_ | with_reducible refine i_slT ?_ | with_reducible refine i_newD ?_ | with_reducible refine i_dictO ?_ | with_reducible refine i_call0 ?_ | with_reducible refine i_s00 ?_ | with_reducible refine i_v (by with_unfolding_all rfl) ?_ | with_reducible refine i_vP (by with_unfolding_all rfl) ?_ | with_reducible refine i_vO (by with_unfolding_all rfl) ?_ | with_reducible refine i_feedSA (by with_unfolding_all rfl) ?_ | with_reducible refine i_callL (by with_unfolding_all rfl) ?_ | with_reducible refine i_gT (by with_unfolding_all rfl) ?_ | with_reducible refine i_app (by with_unfolding_all rfl) ?_ | with_reducible refine i_ext (by with_unfolding_all rfl) ?_ | with_reducible refine i_frz (by with_unfolding_all rfl) ?_ | with_reducible refine ifNT (by with_unfolding_all rfl) ?_ | with_reducible refine ifNF (by with_unfolding_all rfl) ?_ | with_reducible refine ifT (by with_unfolding_all rfl) ?_ | with_reducible refine ifF (by with_unfolding_all rfl) ?_ | with_reducible refine i_setD (by with_unfolding_all rfl) ?_ | with_reducible refine i_ixN (by with_unfolding_all rfl) ?_ | with_reducible refine i_inN (by with_unfolding_all rfl) ?_ | with_reducible refine i_sortDO (by with_unfolding_all rfl) ?_ | with_reducible refine i_szL (by with_unfolding_all rfl) ?_ | with_reducible refine i_eq1 (by with_unfolding_all rfl) ?_ | with_reducible refine i_eq2 (by with_unfolding_all rfl) ?_ | with_reducible refine i_in1 (by with_unfolding_all rfl) ?_ | with_reducible refine i_in2 (by with_unfolding_all rfl) ?_ | with_reducible refine i_nin1 (by with_unfolding_all rfl) ?_ | with_reducible refine i_nin2 (by with_unfolding_all rfl) ?_ | with_reducible refine i_catL (by with_unfolding_all rfl) ?_ | with_reducible refine i_catT (by with_unfolding_all rfl) ?_ | with_reducible refine i_rgc (by with_unfolding_all rfl) ?_ | with_reducible refine i_rgl (by with_unfolding_all rfl) ?_)))
section
variable {P : Program} {w : World} {K : PySem.W.Frag} {mg : Str → Option Value} {base : Heap} {Ts : List Addr} {fa : Nat → Addr} {fdd : Nat → FuncData} {ca ta : Nat → Addr}
theorem ok_next0 (Z : Fx K mg base Ts fa fdd ca ta) : FnOk P w K mg base CX0 1 (fa 24) (fdd 24) p24 (spNext K) := by
  refine Z.F24.ok sc24 (fun vs H Q E h => ?_) (fun cdv A outer s H vs Q E hr h => ⟨_, PSs.nox (
    pss_cons (ps_if (pt_cmpR op_gt (pe_ix ix_list (pv 0) pe_int (fun _ _ => rfl)) pe_int (nomark _))
      (pss_cons (ps_set (i := 2) sc24.nd rfl (.inl rfl) (pe_op op_mod (pe_ix ix_list (pv 0) pe_int (fun _ _ => rfl)) (pv 1)))
        (pss_cons (ps_asg (pe_op op_fdiv (pe_ix ix_list (pv 0) pe_int (fun _ _ => rfl)) (pv 1)) (pg_sub (pv 0) pe_int set_list)) (pss_one (ps_ret (pv 2))))) pss_nil)
    (pss_cons (ps_set (i := 3) sc24.nd rfl (.inl rfl) (pe_ix ix_list (pv 0) pe_int (fun _ _ => rfl)))
    (pss_cons (ps_asg (pe_op op_add (pv 3) pe_int) (pg_sub (pv 0) pe_int set_list))
    (pss_cons (ps_set (i := 4) sc24.nd rfl (.inl rfl) (pe_ix ix_list (pe_ix ix_list (pv 0) pe_int (fun _ _ => rfl)) (pe_op op_mod (pv 3) (pe_callB call_len_seq (by rfl) Z.b_len PySem.boot_len (pa_cons (pe_ix ix_list (pv 0) pe_int (fun _ _ => rfl)) pa_nil))) (fun _ _ => rfl)))
    (pss_cons (ps_if (PW.pt (pw_and (pt_cmpR op_ge (pv 4) (pe_op op_pow pe_int pe_int) (nomark _)) (pw_and1 (pt_cmpR op_lt (pv 3) (pe_callB call_len_seq (by rfl) Z.b_len PySem.boot_len (pa_cons (pe_ix ix_list (pv 0) pe_int (fun _ _ => rfl)) pa_nil)) (nomark _)))))
      (pss_cons (ps_asg (pe_op op_fdiv (pv 4) (pv 1)) (pg_sub (pv 0) pe_int set_list)) (pss_one (ps_ret (pe_op op_mod (pv 4) (pv 1))))) pss_nil)
    (pss_cons (ps_set (i := 5) sc24.nd rfl (.inl rfl) (pe_op op_mod (pe_op op_mul (pe_op op_add (pe_op op_add (pe_op op_add (pe_op op_mod (pv 4) pe_int) (pe_op op_mulX (pe_op op_mulX pe_int (pv 3)) (pv 3))) (pe_op op_mulX pe_int (pv 3))) pe_int) pe_int) pe_int))
    (pss_cons (ps_set (i := 5) sc24.nd rfl (.inl rfl) (pe_op op_mod (pe_op op_add (pe_op op_add (pe_op op_mul (pv 5) (pv 5)) (pe_op op_mulX pe_int (pv 3))) pe_int) pe_int))
    (pss_one (ps_ret (pe_op op_mod (pe_op op_fdiv (pe_op op_mod (pe_op op_mul (pv 5) pe_int) pe_int) pe_int) (pv 1))))))))))), ?_⟩)
  · obtain ⟨g, a, many, n0, ns, p, q, rfl, _⟩ := h
    rfl
  · obtain ⟨g, a, many, n0, ns, p, qq, rfl, hm1, hm2, hg, hp, hb, hq, hsc, q⟩ := h
    -- if feed[2] > 0
    refine ⟨.ref g, rfl, g, _, 2, .int qq, rfl, rfl, .inl (.inl hg), rfl, _, _, rfl, rfl, _, rfl, ?_⟩
    refine ite2 (fun c => ?_) (fun c => ?_)
    · refine ⟨.ref g, rfl, g, _, 2, .int qq, rfl, rfl, .inl (.inl hg), rfl, _, rfl, _, _, rfl, rfl, (by show (0 : Int) < many; omega), ?_⟩
      refine ⟨.ref g, rfl, g, _, 2, .int qq, rfl, rfl, .inl (.inl hg), rfl, _, rfl, _, _, rfl, rfl, ⟨by omega, by omega⟩, .ref g, rfl, g, _, 2, 2, rfl, rfl, hg, rfl, ?_⟩
      exact ⟨_, rfl, q (qq % many) p (qq / many) (Int.emod_nonneg _ (by omega)) (Int.emod_lt_of_pos _ (by omega)) (.inl rfl) (Int.ediv_nonneg hq (by omega))⟩
    · -- at = feed[1]; feed[1] = at + 1
      refine ⟨.ref g, rfl, g, _, 1, .int p, rfl, rfl, .inl (.inl hg), rfl, ?_⟩
      refine ⟨_, rfl, _, _, rfl, rfl, .ref g, rfl, g, _, 1, 1, rfl, rfl, hg, rfl, ?_⟩
      have g2 : (upd H g (fd3 a (p + 1) qq)) g = some (fd3 a (p + 1) qq) := upd_same
      have sc2 : SqL K (upd H g (fd3 a (p + 1) qq)) a ((n0 :: ns).map V.int) := hsc _
      have q2 : ∀ (r q' : Int), 0 ≤ r → r < many → 0 ≤ q' → Q (.int r) (upd (upd H g (fd3 a (p + 1) qq)) g (fd3 a (p + 1) q')) := fun r q' h1 h2 h3 => by rw [upd_upd]; exact q r (p + 1) q' h1 h2 (.inr rfl) h3
      have q3 : ∀ r : Int, 0 ≤ r → r < many → Q (.int r) (upd H g (fd3 a (p + 1) qq)) := fun r h1 h2 => q r (p + 1) qq h1 h2 (.inr rfl) hq
      have hH2' : upd H g (.lst ([V.ref a, .int p, .int qq].set 1 (.int (p + 1)))) = upd H g (fd3 a (p + 1) qq) := rfl
      rw [hH2']
      generalize upd H g (fd3 a (p + 1) qq) = H2 at g2 q2 q3 sc2
      -- cell
      have hlen : (0 : Int) < (((n0 :: ns).map V.int).length : Int) := by rw [List.length_map, List.length_cons]; omega
      obtain ⟨v, hv⟩ : ∃ v, atI ((n0 :: ns).map V.int) (p % (((n0 :: ns).map V.int).length : Int)) = some (.int v) := by
        have h1 := Int.emod_nonneg p (b := (((n0 :: ns).map V.int).length : Int)) (by omega)
        have h2 := Int.emod_lt_of_pos p hlen
        have hk : (p % (((n0 :: ns).map V.int).length : Int)).toNat < (n0 :: ns).length := by
          rw [List.length_map] at h2 ⊢
          rw [List.length_map] at h1
          omega
        have ek : p % (((n0 :: ns).map V.int).length : Int) = (((p % (((n0 :: ns).map V.int).length : Int)).toNat : Nat) : Int) := by omega
        rw [ek]
        exact ⟨(n0 :: ns)[(p % (((n0 :: ns).map V.int).length : Int)).toNat], atI_nat (by rw [List.getElem?_map, List.getElem?_eq_getElem hk] <;> rfl)⟩
      refine ⟨.ref g, rfl, g, _, 0, .ref a, rfl, rfl, .inl (.inl g2), rfl, _, rfl, .ref g, rfl, g, _, 0, .ref a, rfl, rfl, .inl (.inl g2), rfl, a, _, rfl, .inl sc2, _, _, rfl, rfl, hlen, a, _, _, .int v, rfl, rfl, sc2, hv, ?_⟩
      -- if cell >= 10 ** 18 and at < len(feed[0])
      have m0 : ∀ (i : Int) (c : Int), 0 < c → 0 ≤ i % c ∧ i % c < c := fun i c h => ⟨Int.emod_nonneg _ (by omega), Int.emod_lt_of_pos _ h⟩
      refine ⟨_, rfl, _, _, rfl, rfl, ⟨by decide, by decide, by decide⟩, _, _, rfl, rfl, _, rfl, ?_⟩
      refine ite2 (fun c3 => ?_) (fun c3 => ?_)
      · refine ⟨_, rfl, .ref g, rfl, g, _, 0, .ref a, rfl, rfl, .inl (.inl g2), rfl, a, _, rfl, .inl sc2, _, _, rfl, rfl, _, rfl, ?_⟩
        refine ite2 (fun c4 => ?_) (fun c4 => ?_)
        · have c3' : (0 : Int) ≤ v := Int.le_trans (by decide) (of_decide_eq_true c3)
          refine ⟨_, rfl, _, rfl, _, _, rfl, rfl, ⟨by omega, by omega⟩, .ref g, rfl, g, _, 2, 2, rfl, rfl, g2, rfl, ?_⟩
          refine ⟨_, rfl, _, rfl, _, _, rfl, rfl, (by show (0 : Int) < many; omega), ?_⟩
          exact q2 _ _ (Int.emod_nonneg _ (by omega)) (Int.emod_lt_of_pos _ (by omega)) (Int.ediv_nonneg c3' (by omega))
        · refine ⟨_, rfl, _, _, rfl, rfl, (by show (0 : Int) < 1000003; decide), _, rfl, _, _, rfl, rfl, mulX1 hp hb (by decide), _, rfl, _, _, rfl, rfl, mulX2 hp hb (by decide), _, _, rfl, rfl, _, rfl, _, _, rfl, rfl, mulX1 hp hb (by decide), _, _, rfl, rfl, _, _, rfl, rfl, _, _, rfl, rfl, .inr ⟨by decide, by decide⟩, _, _, rfl, rfl, (by show (0 : Int) < 999907; decide), ?_⟩
          have f1 := m0 ((v % 1000003 + 43 * p * p + 29 * p + 1013) * 51859) 999907 (by decide)
          generalize (v % 1000003 + 43 * p * p + 29 * p + 1013) * 51859 % 999907 = x at f1
          refine ⟨_, rfl, _, rfl, _, _, rfl, rfl, .inl ⟨by omega, by omega⟩, _, rfl, _, _, rfl, rfl, mulX1 hp hb (by decide), _, _, rfl, rfl, _, _, rfl, rfl, _, _, rfl, rfl, (by show (0 : Int) < 2097143; decide), ?_⟩
          refine ⟨_, rfl, _, _, rfl, rfl, .inr ⟨by decide, by decide⟩, _, _, rfl, rfl, (by show (0 : Int) < 2147483629; decide), _, _, rfl, rfl, ⟨by decide, by decide⟩, _, rfl, _, _, rfl, rfl, (by show (0 : Int) < many; omega), ?_⟩
          exact q3 _ (Int.emod_nonneg _ (by omega)) (Int.emod_lt_of_pos _ (by omega))
      · refine ite2 (fun c4 => absurd c4 Bool.false_ne_true) (fun c4 => ?_)
        refine ⟨_, rfl, _, _, rfl, rfl, (by show (0 : Int) < 1000003; decide), _, rfl, _, _, rfl, rfl, mulX1 hp hb (by decide), _, rfl, _, _, rfl, rfl, mulX2 hp hb (by decide), _, _, rfl, rfl, _, rfl, _, _, rfl, rfl, mulX1 hp hb (by decide), _, _, rfl, rfl, _, _, rfl, rfl, _, _, rfl, rfl, .inr ⟨by decide, by decide⟩, _, _, rfl, rfl, (by show (0 : Int) < 999907; decide), ?_⟩
        have f1 := m0 ((v % 1000003 + 43 * p * p + 29 * p + 1013) * 51859) 999907 (by decide)
        generalize (v % 1000003 + 43 * p * p + 29 * p + 1013) * 51859 % 999907 = x at f1
        refine ⟨_, rfl, _, rfl, _, _, rfl, rfl, .inl ⟨by omega, by omega⟩, _, rfl, _, _, rfl, rfl, mulX1 hp hb (by decide), _, _, rfl, rfl, _, _, rfl, rfl, _, _, rfl, rfl, (by show (0 : Int) < 2097143; decide), ?_⟩
        refine ⟨_, rfl, _, _, rfl, rfl, .inr ⟨by decide, by decide⟩, _, _, rfl, rfl, (by show (0 : Int) < 2147483629; decide), _, _, rfl, rfl, ⟨by decide, by decide⟩, _, rfl, _, _, rfl, rfl, (by show (0 : Int) < many; omega), ?_⟩
        exact q3 _ (Int.emod_nonneg _ (by omega)) (Int.emod_lt_of_pos _ (by omega))
theorem ok__law_next (Z : Fx K mg base Ts fa fdd ca ta) {ga sa : Addr} {n0 : Int} {ns : List Int} : FnOk P w K mg base CX0 1 (fa 24) (fdd 24) p24 (spD ⟨K, Ts, some ga, sa, n0 :: ns, 2⟩ 1 (specTake 1000000)) := (ok_next0 Z).imp fun vs H Q E h => next3 h
end

theorem rowIs {ds : List PyData} {n : Int} : NA.rowD (.tuple ds) n = PyData.eqv (.int (ds.length : Int)) (.int n) := by
  show decide ((ds.length : Int) = n) = ((ds.length : Int) == n)
  by_cases h : (ds.length : Int) = n
  · rw [decide_eq_true h, h]
    exact (beq_self_eq_true _).symm
  · rw [decide_eq_false h, beq_false_of_ne h]
/-- a test on the kind and the length of a row, as the law has it -/
theorem row_test {d : PyData} {n : Int} {A B : Prop} (h1 : NA.rowD d n = false → A) (h2 : NA.rowD d n = true → B) : if (!NA.isT d) = true then A else (∀ ds, d = .tuple ds → if (!PyData.eqv (.int (ds.length : Int)) (.int n)) = true then A else B) := by
  cases d with
  | tuple ds =>
    intro es e
    cases e
    rw [← rowIs]
    cases z : NA.rowD (.tuple ds) n with
    | true => exact h2 z
    | false => exact h1 z
  | _ => exact h1 rfl
theorem from_btw {d : PyData} {lo : Int} (h : Cd d) : NA.btwD d lo (10 ^ 40) = NA.fromD d lo := by
  cases d with
  | int i =>
    show (decide (lo ≤ i) && decide (i ≤ 10 ^ 40)) = decide (lo ≤ i)
    rw [decide_eq_true (Cd.int h).1, Bool.and_true]
  | _ => rfl
theorem pow40 {A : Prop} (h : A) : (0 ≤ (40 : Int) ∧ (40 : Int) ≤ 1000000 ∧ (10 : Int).natAbs < 2 ^ 64) ∧ A := ⟨⟨by decide, by decide, by decide⟩, h⟩
/-! ### _law_is_whole -/
@[reducible] def sp__law_is_whole : SpecD := sp3 fun d e f R => onI e fun lo => onI f fun hi => R (.bool (NA.btwD d lo hi))
def cost__law_is_whole : Nat := 0
def rd__law_is_whole : DS := (retS (andD (isiD NA.isI (vD 0)) (andD (notD (isiD NA.isB (vD 0))) (chD leO leO (vD 1) (vD 0) (vD 2)))))
section
variable {P : Program} {w : World} {K : PySem.W.Frag} {mg : Str → Option Value} {base : Heap} {Ts : List Addr} {fa : Nat → Addr} {fdd : Nat → FuncData} {ca ta : Nat → Addr} {g : Option Addr} {sa ga : Addr} {n0 : Int} {ns : List Int}
theorem dv__law_is_whole (Z : Fx K mg base Ts fa fdd ca ta) {A : Around} {outer : List Env} {s : Shared} {H : Hp} {E : XK} {F0 : List Addr} (hr : Room 0 (A.deeper (envOfC "_law_is_whole" (defScope s25) s.heap.objs.size (fa 25) (.ref (ca 25))))) : ∃ κ, PDSs (cxOf CX0 P w K mg base N25 "_law_is_whole" (defScope s25) (fa 25) (.ref (ca 25)) A outer s H E).nox (cc0 ⟨K, Ts, g, sa, (n0 :: ns), 2⟩ H F0) κ (defBody s25) rd__law_is_whole ∧ κ ≤ cost__law_is_whole :=
  ⟨_, (ss_one (s_ret (d_and (d_isi (T := "int") (fun _ _ _ h => NA.kitInt h) (by rfl) Z.b_isinstance (PD.pp (d_var (pv 0))) (pe_bltn (by rfl) Z.b_int (by decide +kernel) (v := .ty "int") rfl)) (d_and (d_not (d_isi (T := "bool") (fun _ _ _ h => NA.kitBool h) (by rfl) Z.b_isinstance (PD.pp (d_var (pv 0))) (pe_bltn (by rfl) Z.b_bool (by decide +kernel) (v := .ty "bool") rfl))) (d_one (d_chain (ol_le hr) oo_cmp (ol_le hr) oo_cmp (PD.pp (d_var (pv 1))) (PD.pp (d_var (pv 0))) (PD.pp (d_var (pv 2))))))))), by decide +kernel⟩
theorem ok__law_is_whole (Z : Fx K mg base Ts fa fdd ca ta) : FnOk P w K mg base CX0 1 (fa 25) (fdd 25) p25 (spD ⟨K, Ts, g, sa, (n0 :: ns), 2⟩ cost__law_is_whole sp__law_is_whole) := okD Z.F25 Z.c25 sc25 c3 fun A outer s H E F0 hr => ⟨_, dv__law_is_whole Z hr, fun ss R h => by
  obtain ⟨d, e, f, rfl, h⟩ := sp3_ok h
  obtain ⟨lo, rfl, h⟩ := onI_ok h
  obtain ⟨hi, rfl, h⟩ := onI_ok h
  cases d with
  | int i =>
    have z : R (.bool (decide (lo ≤ i) && decide (i ≤ hi))) := h
    unfold rd__law_is_whole
    decreasing_tactic
    refine and_step z (fun e z => ?_) (fun z => z)
    decreasing_tactic
    exact z
  | _ => exact h⟩
end
/-! ### _law_is_seat -/
@[reducible] def sp__law_is_seat : SpecD := askC Cd NA.seatD
def cost__law_is_seat : Nat := 0
def rd__law_is_seat : DS := (seqS (ifS (orT (notT (tr (isiD NA.isT (vD 0)))) (orT (notT (tr (chD leO leO (cD (.int 1)) (b1D lenO (vD 0)) (cD (.int 5))))) (notT (tr (callD sp__law_is_whole (dSA (oD ixO (vD 0) (cD (.int 0))) (dSA (cD (.int 0)) (dSA (cD (.int 3)) nilSA)))))))) (retS (cD (.bool false))) nilS) (retS (oD eqO (asL (lcN (seqI (slD (vD 0) (someO (cD (.int 1))) noO)) [1] (gN 1) (notT (tr (callD sp__law_is_whole (dSA (vD 1) (dSA (cD (.int 1)) (dSA (cD (.int 99)) nilSA)))))) (vD 1))) (asL (lstN nilA)))))
section
variable {P : Program} {w : World} {K : PySem.W.Frag} {mg : Str → Option Value} {base : Heap} {Ts : List Addr} {fa : Nat → Addr} {fdd : Nat → FuncData} {ca ta : Nat → Addr} {g : Option Addr} {sa ga : Addr} {n0 : Int} {ns : List Int}
theorem dv__law_is_seat (Z : Fx K mg base Ts fa fdd ca ta) {A : Around} {outer : List Env} {s : Shared} {H : Hp} {E : XK} {F0 : List Addr} (hr : Room 1 (A.deeper (envOfC "_law_is_seat" (defScope s26) s.heap.objs.size (fa 26) (.ref (ca 26))))) : ∃ κ, PDSs (cxOf CX0 P w K mg base N26 "_law_is_seat" (defScope s26) (fa 26) (.ref (ca 26)) A outer s H E).nox (cc0 ⟨K, Ts, g, sa, (n0 :: ns), 2⟩ H F0) κ (defBody s26) rd__law_is_seat ∧ κ ≤ cost__law_is_seat :=
  ⟨_, (ss_cons (s_if (PW.pt (w_or (t_not (t_val (d_isi (T := "tuple") (fun _ _ _ h => NA.kitTuple h) (by rfl) Z.b_isinstance (PD.pp (d_var (pv 0))) (pe_bltn (by rfl) Z.b_tuple (by decide +kernel) (v := .ty "tuple") rfl)))) (w_or (t_not (t_chain (ol_le hr) oo_cmp (ol_le hr) oo_cmp (PD.pp d_int) (PD.pp (d_len (by rfl) Z.b_len (PD.pp (d_var (pv 0))))) (PD.pp d_int))) (w_or1 (t_not (t_val (d_call (ok__law_is_whole Z) (hr.mono (by decide)) rfl Z.g25 Z.F25.kp Z.b25 (sa_d (d_ix (PD.pp (d_var (pv 0))) (PD.pp d_int) (fun _ _ => rfl)) (sa_d d_int (sa_d d_int sa_nil)))))))))) (ss_one (s_ret d_bl)) ss_nil) (ss_one (s_ret (d_cmp (op_eqP hr) od_cmp (PD.pp (PN.pd (n_lc (own := [("_law_one", 1)]) rfl sc26.nd (i_any_p (PD.pp (d_sl (PD.pp (d_var (pv 0))) (o_some (PD.pp d_int)) o_none))) (blkOk_by (N := N26) (sc := (defScope s26)) (by first | decide +kernel | kernel_rfl)) (fun _ _ _ _ _ => (g_name (pg_name (i := 1) sc26.nd rfl (Or.inl rfl)))) (fun _ _ _ _ _ => (ts_one (t_not (t_val (d_call (ok__law_is_whole Z) (hr.mono (by decide)) rfl Z.g25 Z.F25.kp Z.b25 (sa_d (d_var (pv 1)) (sa_d d_int (sa_d d_int sa_nil)))))))) (fun _ _ _ _ _ => (d_var (pv 1))) (by decide)))) (PD.pp (PN.pd (n_lst a_nil))) (nomark _))))), by decide +kernel⟩
theorem ok__law_is_seat (Z : Fx K mg base Ts fa fdd ca ta) : FnOk P w K mg base CX0 2 (fa 26) (fdd 26) p26 (spD ⟨K, Ts, g, sa, (n0 :: ns), 2⟩ cost__law_is_seat sp__law_is_seat) := okD Z.F26 Z.c26 sc26 c1 fun A outer s H E F0 hr => ⟨_, dv__law_is_seat Z hr, fun ss R h => by
  obtain ⟨d, rfl, hc, h⟩ := sp1_ok h
  cases d with
  | tuple ds =>
    cases ds with
    | nil => exact h
    | cons x r =>
      have h' : R (.bool (decide (r.length ≤ 4) && (NA.btwD x 0 3 && r.all fun y => NA.btwD y 1 99))) := h
      have hl := hc.len
      rw [List.length_cons] at hl
      unfold rd__law_is_seat
      decreasing_tactic
      refine ifT (b := decide ((1 : Int) ≤ (((x :: r).length : Nat) : Int))) (decide_eq_true (by rw [List.length_cons]; omega)) ?_
      decreasing_tactic
      have l2 : decide ((((x :: r).length : Nat) : Int) ≤ 5) = decide (r.length ≤ 4) := by
        rw [List.length_cons]
        by_cases z : r.length ≤ 4
        · rw [decide_eq_true z, decide_eq_true (by omega)]
        · rw [decide_eq_false z, decide_eq_false (by omega)]
      rw [l2]
      refine nand_step h' (fun e h' => ?_) (fun h' => by decreasing_tactic; exact h')
      decreasing_tactic
      refine nand_step h' (fun e h' => ?_) (fun h' => by decreasing_tactic; exact h')
      decreasing_tactic
      rw [show DL.cutD (x :: r) (some 1) none = r from cutD1]
      decreasing_tactic
      exact left_nil (f := fun y => NA.btwD y 1 99) (fewer (by omega)) (fun d m Q q => by decreasing_tactic; exact q) (fun d m Q q => q) h'
  | _ => exact h⟩
end
/-! ### _law_is_dot -/
@[reducible] def sp__law_is_dot : SpecD := askC Cd NA.dotD
theorem dot_row {d : PyData} (h : NA.rowD d 2 = false) : NA.dotD d = false := by
  cases d with
  | tuple ds => exact NA.dot_len fun e => by rw [show NA.rowD (.tuple ds) 2 = true from decide_eq_true (by omega)] at h; cases h
  | _ => rfl
def cost__law_is_dot : Nat := 0
def rd__law_is_dot : DS := (seqS (ifS (orT (notT (tr (isiD NA.isT (vD 0)))) (tr (oD neO (b1D lenO (vD 0)) (cD (.int 2))))) (retS (cD (.bool false))) nilS) (retS (andD (callD sp__law_is_seat (dSA (oD ixO (vD 0) (cD (.int 0))) nilSA)) (callD sp__law_is_whole (dSA (oD ixO (vD 0) (cD (.int 1))) (dSA (cD (.int 1)) (dSA (oD powO (cD (.int 10)) (cD (.int 40))) nilSA)))))))
section
variable {P : Program} {w : World} {K : PySem.W.Frag} {mg : Str → Option Value} {base : Heap} {Ts : List Addr} {fa : Nat → Addr} {fdd : Nat → FuncData} {ca ta : Nat → Addr} {g : Option Addr} {sa ga : Addr} {n0 : Int} {ns : List Int}
theorem dv__law_is_dot (Z : Fx K mg base Ts fa fdd ca ta) {A : Around} {outer : List Env} {s : Shared} {H : Hp} {E : XK} {F0 : List Addr} (hr : Room 2 (A.deeper (envOfC "_law_is_dot" (defScope s27) s.heap.objs.size (fa 27) (.ref (ca 27))))) : ∃ κ, PDSs (cxOf CX0 P w K mg base N27 "_law_is_dot" (defScope s27) (fa 27) (.ref (ca 27)) A outer s H E).nox (cc0 ⟨K, Ts, g, sa, (n0 :: ns), 2⟩ H F0) κ (defBody s27) rd__law_is_dot ∧ κ ≤ cost__law_is_dot :=
  ⟨_, (ss_cons (s_if (PW.pt (w_or (t_not (t_val (d_isi (T := "tuple") (fun _ _ _ h => NA.kitTuple h) (by rfl) Z.b_isinstance (PD.pp (d_var (pv 0))) (pe_bltn (by rfl) Z.b_tuple (by decide +kernel) (v := .ty "tuple") rfl)))) (w_or1 (t_cmp (op_neP hr) od_cmp (PD.pp (d_len (by rfl) Z.b_len (PD.pp (d_var (pv 0))))) (PD.pp d_int) (nomark _))))) (ss_one (s_ret d_bl)) ss_nil) (ss_one (s_ret (d_and (d_call (ok__law_is_seat Z) (hr.mono (by decide)) rfl Z.g26 Z.F26.kp Z.b26 (sa_d (d_ix (PD.pp (d_var (pv 0))) (PD.pp d_int) (fun _ _ => rfl)) sa_nil)) (d_one (d_call (ok__law_is_whole Z) (hr.mono (by decide)) rfl Z.g25 Z.F25.kp Z.b25 (sa_d (d_ix (PD.pp (d_var (pv 0))) (PD.pp d_int) (fun _ _ => rfl)) (sa_d d_int (sa_d (d_pow (PD.pp d_int) (PD.pp d_int)) sa_nil))))))))), by decide +kernel⟩
theorem ok__law_is_dot (Z : Fx K mg base Ts fa fdd ca ta) : FnOk P w K mg base CX0 3 (fa 27) (fdd 27) p27 (spD ⟨K, Ts, g, sa, (n0 :: ns), 2⟩ cost__law_is_dot sp__law_is_dot) := okD Z.F27 Z.c27 sc27 c1 fun A outer s H E F0 hr => ⟨_, dv__law_is_dot Z hr, fun ss R h => by
  obtain ⟨d, rfl, hc, h⟩ := sp1_ok h
  cases d with
  | tuple ds =>
    unfold rd__law_is_dot
    decreasing_tactic
    rw [← rowIs]
    refine ifNE (b := NA.rowD (.tuple ds) 2) (fun e => ?_) (fun e => ?_)
    · rw [dot_row e] at h
      decreasing_tactic
      exact h
    · obtain ⟨x, y, e⟩ := row2 e
      cases e
      have h' : R (.bool (NA.seatD x && NA.fromD y 1)) := h
      decreasing_tactic
      refine ⟨hc.mem (by simp), ?_⟩
      decreasing_tactic
      refine and_step h' (fun e h' => ?_) (fun h' => h')
      decreasing_tactic
      refine pow40 ?_
      decreasing_tactic
      show R (.bool (NA.btwD y 1 (10 ^ 40)))
      rw [from_btw (hc.mem (by simp))]
      exact h'
  | _ => exact h⟩
end
/-! ### _law_is_name -/
@[reducible] def sp__law_is_name : SpecD := askC Cd nameD
def cost__law_is_name : Nat := 0
def rd__law_is_name : DS := (seqS (asgS (cD (.str "abcdefghijklmnopqrstuvwxyz")) (gN 1)) (seqS (ifS (orT (notT (tr (isiD NA.isS (vD 0)))) (notT (tr (chD leO leO (cD (.int 1)) (b1D lenO (vD 0)) (cD (.int 8)))))) (retS (cD (.bool false))) nilS) (retS (oD eqO (asL (lcN (seqI (vD 0)) [2] (gN 2) (tr (oD ninO (vD 2) (vD 1))) (vD 2))) (asL (lstN nilA))))))
section
variable {P : Program} {w : World} {K : PySem.W.Frag} {mg : Str → Option Value} {base : Heap} {Ts : List Addr} {fa : Nat → Addr} {fdd : Nat → FuncData} {ca ta : Nat → Addr} {g : Option Addr} {sa ga : Addr} {n0 : Int} {ns : List Int}
theorem dv__law_is_name (Z : Fx K mg base Ts fa fdd ca ta) {A : Around} {outer : List Env} {s : Shared} {H : Hp} {E : XK} {F0 : List Addr} (hr : Room 0 (A.deeper (envOfC "_law_is_name" (defScope s28) s.heap.objs.size (fa 28) (.ref (ca 28))))) : ∃ κ, PDSs (cxOf CX0 P w K mg base N28 "_law_is_name" (defScope s28) (fa 28) (.ref (ca 28)) A outer s H E).nox (cc0 ⟨K, Ts, g, sa, (n0 :: ns), 2⟩ H F0) κ (defBody s28) rd__law_is_name ∧ κ ≤ cost__law_is_name :=
  ⟨_, (ss_cons (s_asg d_str (g_name (pg_name (i := 1) sc28.nd rfl (by first | exact Or.inl rfl | exact Or.inr rfl)))) (ss_cons (s_if (PW.pt (w_or (t_not (t_val (d_isi (T := "str") (fun _ _ _ h => NA.kitStr h) (by rfl) Z.b_isinstance (PD.pp (d_var (pv 0))) (pe_bltn (by rfl) Z.b_str (by decide +kernel) (v := .ty "str") rfl)))) (w_or1 (t_not (t_chain (ol_le hr) oo_cmp (ol_le hr) oo_cmp (PD.pp d_int) (PD.pp (d_len (by rfl) Z.b_len (PD.pp (d_var (pv 0))))) (PD.pp d_int)))))) (ss_one (s_ret d_bl)) ss_nil) (ss_one (s_ret (d_cmp (op_eqP hr) od_cmp (PD.pp (PN.pd (n_lc (own := [("_law_sign", 2)]) rfl sc28.nd (i_any_p (PD.pp (d_var (pv 0)))) (blkOk_by (N := N28) (sc := (defScope s28)) (by first | decide +kernel | kernel_rfl)) (fun _ _ _ _ _ => (g_name (pg_name (i := 2) sc28.nd rfl (Or.inl rfl)))) (fun _ _ _ _ _ => (ts_one (t_cmp (ol_nin hr) oo_nin (PD.pp (d_var (pv 2))) (PD.pp (d_var (pv 1))) (by first | rfl | with_unfolding_all rfl)))) (fun _ _ _ _ _ => (d_var (pv 2))) (by decide)))) (PD.pp (PN.pd (n_lst a_nil))) (nomark _)))))), by decide +kernel⟩
theorem ok__law_is_name (Z : Fx K mg base Ts fa fdd ca ta) : FnOk P w K mg base CX0 1 (fa 28) (fdd 28) p28 (spD ⟨K, Ts, g, sa, (n0 :: ns), 2⟩ cost__law_is_name sp__law_is_name) := okD Z.F28 Z.c28 sc28 c1 fun A outer s H E F0 hr => ⟨_, dv__law_is_name Z hr, fun ss R h => by
  obtain ⟨d, rfl, hc, h⟩ := sp1_ok h
  cases d with
  | str x =>
    have h' : R (.bool (decide (1 ≤ x.length) && (decide (x.length ≤ 8) && (signsD x).all smallS))) := h
    rw [← castLe (m := 1), ← castLe (n := 8)] at h'
    have hl : x.length ≤ 1000000 := hc.bulk
    unfold rd__law_is_name
    decreasing_tactic
    refine ⟨hc.txt, ?_⟩
    decreasing_tactic
    refine and_step (r := decide ((x.length : Int) ≤ 8) && (signsD x).all smallS) h' (fun e h' => ?_) (fun h' => by decreasing_tactic; exact h')
    decreasing_tactic
    refine nand_step h' (fun e h' => ?_) (fun h' => by decreasing_tactic; exact h')
    decreasing_tactic
    refine left_nil (f := smallS) (by unfold signsD; rw [List.length_map, Array.length_toList]; exact fewer hl) (fun d m Q q => ?_) (fun d m Q q => q) h'
    obtain ⟨c, rfl⟩ := sign_of m
    exact ⟨rfl, q⟩
  | _ => exact h⟩
end
/-! ### _law_is_thing -/
@[reducible] def sp__law_is_thing : SpecD := askC Cd thingD
theorem thing_row {d : PyData} (h : NA.rowD d 3 = false) : thingD d = false := by
  cases d with
  | tuple ds =>
    match ds, h with
    | [], _ => rfl
    | [_], _ => rfl
    | [_, _], _ => rfl
    | [_, _, _], h => cases h
    | _ :: _ :: _ :: _ :: _, _ => rfl
  | _ => rfl
theorem void_or {w : PyData} : (if NA.isT w = true then PyData.eqv w (.tuple []) else false) = PyData.eqv w (.tuple []) := by cases w <;> rfl
def cost__law_is_thing : Nat := 0
def rd__law_is_thing : DS := (seqS (ifS (orT (notT (tr (isiD NA.isT (vD 0)))) (orT (tr (oD neO (b1D lenO (vD 0)) (cD (.int 3)))) (notT (tr (callD sp__law_is_name (dSA (oD ixO (vD 0) (cD (.int 1))) nilSA)))))) (retS (cD (.bool false))) nilS) (seqS (asgS (orD (andD (isiD NA.isT (oD ixO (vD 0) (cD (.int 0)))) (oD eqO (oD ixO (vD 0) (cD (.int 0))) (tupD nilA))) (callD sp__law_is_dot (dSA (oD ixO (vD 0) (cD (.int 0))) nilSA))) (gN 1)) (retS (andD (vD 1) (callD sp__law_is_whole (dSA (oD ixO (vD 0) (cD (.int 2))) (dSA (negD (cD (.int 999))) (dSA (cD (.int 999)) nilSA))))))))
section
variable {P : Program} {w : World} {K : PySem.W.Frag} {mg : Str → Option Value} {base : Heap} {Ts : List Addr} {fa : Nat → Addr} {fdd : Nat → FuncData} {ca ta : Nat → Addr} {g : Option Addr} {sa ga : Addr} {n0 : Int} {ns : List Int}
theorem dv__law_is_thing (Z : Fx K mg base Ts fa fdd ca ta) {A : Around} {outer : List Env} {s : Shared} {H : Hp} {E : XK} {F0 : List Addr} (hr : Room 3 (A.deeper (envOfC "_law_is_thing" (defScope s29) s.heap.objs.size (fa 29) (.ref (ca 29))))) : ∃ κ, PDSs (cxOf CX0 P w K mg base N29 "_law_is_thing" (defScope s29) (fa 29) (.ref (ca 29)) A outer s H E).nox (cc0 ⟨K, Ts, g, sa, (n0 :: ns), 2⟩ H F0) κ (defBody s29) rd__law_is_thing ∧ κ ≤ cost__law_is_thing :=
  ⟨_, (ss_cons (s_if (PW.pt (w_or (t_not (t_val (d_isi (T := "tuple") (fun _ _ _ h => NA.kitTuple h) (by rfl) Z.b_isinstance (PD.pp (d_var (pv 0))) (pe_bltn (by rfl) Z.b_tuple (by decide +kernel) (v := .ty "tuple") rfl)))) (w_or (t_cmp (op_neP hr) od_cmp (PD.pp (d_len (by rfl) Z.b_len (PD.pp (d_var (pv 0))))) (PD.pp d_int) (nomark _)) (w_or1 (t_not (t_val (d_call (ok__law_is_name Z) (hr.mono (by decide)) rfl Z.g28 Z.F28.kp Z.b28 (sa_d (d_ix (PD.pp (d_var (pv 0))) (PD.pp d_int) (fun _ _ => rfl)) sa_nil)))))))) (ss_one (s_ret d_bl)) ss_nil) (ss_cons (s_asg (d_or (d_and (d_isi (T := "tuple") (fun _ _ _ h => NA.kitTuple h) (by rfl) Z.b_isinstance (PD.pp (d_ix (PD.pp (d_var (pv 0))) (PD.pp d_int) (fun _ _ => rfl))) (pe_bltn (by rfl) Z.b_tuple (by decide +kernel) (v := .ty "tuple") rfl)) (d_one (d_cmp (op_eqP hr) od_cmp (PD.pp (d_ix (PD.pp (d_var (pv 0))) (PD.pp d_int) (fun _ _ => rfl))) (PD.pp (d_tup a_nil)) (nomark _)))) (d_one (d_call (ok__law_is_dot Z) (hr.mono (by decide)) rfl Z.g27 Z.F27.kp Z.b27 (sa_d (d_ix (PD.pp (d_var (pv 0))) (PD.pp d_int) (fun _ _ => rfl)) sa_nil)))) (g_name (pg_name (i := 1) sc29.nd rfl (by first | exact Or.inl rfl | exact Or.inr rfl)))) (ss_one (s_ret (d_and (d_var (pv 1)) (d_one (d_call (ok__law_is_whole Z) (hr.mono (by decide)) rfl Z.g25 Z.F25.kp Z.b25 (sa_d (d_ix (PD.pp (d_var (pv 0))) (PD.pp d_int) (fun _ _ => rfl)) (sa_d (d_neg (PD.pp d_int)) (sa_d d_int sa_nil)))))))))), by decide +kernel⟩
theorem ok__law_is_thing (Z : Fx K mg base Ts fa fdd ca ta) : FnOk P w K mg base CX0 4 (fa 29) (fdd 29) p29 (spD ⟨K, Ts, g, sa, (n0 :: ns), 2⟩ cost__law_is_thing sp__law_is_thing) := okD Z.F29 Z.c29 sc29 c1 fun A outer s H E F0 hr => ⟨_, dv__law_is_thing Z hr, fun ss R h => by
  obtain ⟨d, rfl, hc, h⟩ := sp1_ok h
  cases d with
  | tuple ds =>
    unfold rd__law_is_thing
    decreasing_tactic
    rw [← rowIs]
    refine ifNE (b := NA.rowD (.tuple ds) 3) (fun e => ?_) (fun e => ?_)
    · rw [thing_row e] at h
      decreasing_tactic
      exact h
    · obtain ⟨w, n, v, e⟩ := row3 e
      cases e
      have h' : R (.bool (nameD n && ((PyData.eqv w (.tuple []) || NA.dotD w) && NA.btwD v (-999) 999))) := by
        have e : (nameD n && ((PyData.eqv w (.tuple []) || NA.dotD w) && NA.btwD v (-999) 999)) = ((PyData.eqv w (.tuple []) || NA.dotD w) && (nameD n && NA.btwD v (-999) 999)) := by
          generalize (PyData.eqv w (.tuple []) || NA.dotD w) = a
          generalize nameD n = b
          cases a <;> cases b <;> rfl
        rw [e]
        exact h
      decreasing_tactic
      refine ⟨hc.mem (by simp), ?_⟩
      decreasing_tactic
      refine nand_step h' (fun e h' => ?_) (fun h' => by decreasing_tactic; exact h')
      have fin : ∀ c : Bool, (PyData.eqv w (.tuple []) || NA.dotD w) = c → (retS (andD (vD 1) (callD sp__law_is_whole (dSA (oD ixO (vD 0) (cD (.int 2))) (dSA (negD (cD (.int 999))) (dSA (cD (.int 999)) nilSA)))))) { nx := fun _ => R .none, rt := R } [some (.d (.tuple [w, n, v])), some (.d (.bool c))] := fun c e => by
        rw [e] at h'
        decreasing_tactic
        refine and_step h' (fun e h' => ?_) (fun h' => h')
        decreasing_tactic
        exact h'
      have dot : NA.isT w = true → PyData.eqv w (.tuple []) = false → (callD sp__law_is_dot (dSA (oD ixO (vD 0) (cD (.int 0))) nilSA)) [some (.d (.tuple [w, n, v])), none] fun d => gN 1 d [some (.d (.tuple [w, n, v])), none] (fun ρ => (retS (andD (vD 1) (callD sp__law_is_whole (dSA (oD ixO (vD 0) (cD (.int 2))) (dSA (negD (cD (.int 999))) (dSA (cD (.int 999)) nilSA)))))) { nx := fun _ => R .none, rt := R } ρ) := fun _ e => by
        decreasing_tactic
        refine ⟨hc.mem (by simp), ?_⟩
        exact fin _ (by rw [e, Bool.false_or])
      decreasing_tactic
      cases w with
      | tuple ws =>
        decreasing_tactic
        refine ifE (b := PyData.eqv (.tuple ws) (.tuple [])) (fun e => ?_) (fun e => ?_)
        · exact fin true (by rw [e, Bool.true_or])
        · exact dot rfl e
      | _ =>
        decreasing_tactic
        refine ⟨hc.mem (by simp), ?_⟩
        exact fin _ rfl
  | _ => exact h⟩
end
/-! ### _law_is_m -/
@[reducible] def sp__law_is_m : SpecD := sp2 fun s d R => onT s fun _ => R (.bool (NA.btwD d 0 (mTop s)))
def cost__law_is_m : Nat := 0
def rd__law_is_m : DS := (retS (callD sp__law_is_whole (dSA (vD 1) (dSA (cD (.int 0)) (dSA (oD ixO (asL (lstN (consA (cD (.int 99)) (consA (cD (.int 0)) nilA)))) (b1D int1O (oD eqO (b1D lenO (vD 0)) (cD (.int 5))))) nilSA)))))
section
variable {P : Program} {w : World} {K : PySem.W.Frag} {mg : Str → Option Value} {base : Heap} {Ts : List Addr} {fa : Nat → Addr} {fdd : Nat → FuncData} {ca ta : Nat → Addr} {g : Option Addr} {sa ga : Addr} {n0 : Int} {ns : List Int}
theorem dv__law_is_m (Z : Fx K mg base Ts fa fdd ca ta) {A : Around} {outer : List Env} {s : Shared} {H : Hp} {E : XK} {F0 : List Addr} (hr : Room 1 (A.deeper (envOfC "_law_is_m" (defScope s30) s.heap.objs.size (fa 30) (.ref (ca 30))))) : ∃ κ, PDSs (cxOf CX0 P w K mg base N30 "_law_is_m" (defScope s30) (fa 30) (.ref (ca 30)) A outer s H E).nox (cc0 ⟨K, Ts, g, sa, (n0 :: ns), 2⟩ H F0) κ (defBody s30) rd__law_is_m ∧ κ ≤ cost__law_is_m :=
  ⟨_, (ss_one (s_ret (d_call (ok__law_is_whole Z) (hr.mono (by decide)) rfl Z.g25 Z.F25.kp Z.b25 (sa_d (d_var (pv 1)) (sa_d d_int (sa_d (d_ix (PD.pp (PN.pd (n_lst (a_cons d_int (a_cons d_int a_nil))))) (PD.pp (d_int1 (by rfl) Z.b_int (PD.pp (d_cmp (op_eqP hr) od_cmp (PD.pp (d_len (by rfl) Z.b_len (PD.pp (d_var (pv 0))))) (PD.pp d_int) (nomark _))))) (fun _ _ => rfl)) sa_nil)))))), by decide +kernel⟩
theorem ok__law_is_m (Z : Fx K mg base Ts fa fdd ca ta) : FnOk P w K mg base CX0 2 (fa 30) (fdd 30) p30 (spD ⟨K, Ts, g, sa, (n0 :: ns), 2⟩ cost__law_is_m sp__law_is_m) := okD Z.F30 Z.c30 sc30 c2 fun A outer s H E F0 hr => ⟨_, dv__law_is_m Z hr, fun ss R h => by
  obtain ⟨s, d, rfl, h⟩ := sp2_ok h
  obtain ⟨es, rfl, h0⟩ := onT_ok h
  have h : R (.bool (NA.btwD d 0 (mTop (.tuple es)))) := h0
  unfold rd__law_is_m
  decreasing_tactic
  have q : mTop (.tuple es) = if es.length = 5 then 0 else 99 := rfl
  cases e : PyData.eqv (.int (es.length : Int)) (.int 5) with
  | true =>
    have e' : (es.length : Int) = 5 := eq_of_beq (show ((es.length : Int) == 5) = true from e)
    rw [q, if_pos (by omega)] at h
    show ixO (.list [.int 99, .int 0]) (.int 1) _
    refine i_lx1 ?_
    decreasing_tactic
    exact h
  | false =>
    have e' : ¬ (es.length : Int) = 5 := ne_of_beq_false (show ((es.length : Int) == 5) = false from e)
    rw [q, if_neg (by omega)] at h
    show ixO (.list [.int 99, .int 0]) (.int 0) _
    refine i_lx0 ?_
    decreasing_tactic
    exact h⟩
end
/-! ### _law_are_rising -/
@[reducible] def sp__law_are_rising : SpecD := sp1 fun d R => onL d fun ds => ds.length ≤ 1000000 ∧ (∀ x ∈ ds, ∀ y ∈ ds, cOrd x y ∧ ∀ i, x ≠ .int i) ∧ R (.bool (riseB ds))
def stepOk (ds : List PyData) : PyData → Bool
  | .int i => (match ds[i.toNat - 1]?, ds[i.toNat]? with | some x, some y => PySem.W.dataLt x y | _, _ => true)
  | _ => true
theorem steps_rise {ds : List PyData} : (rngD 1 (ds.length - 1)).all (stepOk ds) = riseB ds := by
  rw [Bool.eq_iff_iff, riseB_at, List.all_eq_true]
  constructor
  · intro hh i x y hx hy
    have l2 : i + 1 < ds.length := (List.getElem?_eq_some_iff.mp hy).1
    have m : PyData.int (1 + (i : Int)) ∈ rngD 1 (ds.length - 1) := by
      unfold rngD
      exact List.mem_map.mpr ⟨i, List.mem_range.mpr (by omega), rfl⟩
    have z := hh _ m
    have e1 : ((1 : Int) + (i : Int)).toNat = i + 1 := by omega
    simpa only [stepOk, e1, Nat.add_sub_cancel, hx, hy] using z
  · intro hh z hz
    obtain ⟨i, hi, rfl⟩ := rngD_mem hz
    have l1 : i < ds.length := by omega
    have l2 : i + 1 < ds.length := by omega
    have g1 : ds[i]? = some ds[i] := List.getElem?_eq_getElem l1
    have g2 : ds[i + 1]? = some ds[i + 1] := List.getElem?_eq_getElem l2
    have e1 : ((1 : Int) + (i : Int)).toNat = i + 1 := by omega
    have z := hh i ds[i] ds[i + 1] g1 g2
    simpa only [stepOk, e1, Nat.add_sub_cancel, g1, g2] using z
def cost__law_are_rising : Nat := 0
def rd__law_are_rising : DS := (retS (oD eqO (asL (lcN (rng2 (cD (.int 1)) (b1D lenO (vD 0))) [1] (gN 1) (notT (tr (oD ltO (oD ixO (vD 0) (oD subO (vD 1) (cD (.int 1)))) (oD ixO (vD 0) (vD 1))))) (vD 1))) (asL (lstN nilA))))
section
variable {P : Program} {w : World} {K : PySem.W.Frag} {mg : Str → Option Value} {base : Heap} {Ts : List Addr} {fa : Nat → Addr} {fdd : Nat → FuncData} {ca ta : Nat → Addr} {g : Option Addr} {sa ga : Addr} {n0 : Int} {ns : List Int}
theorem dv__law_are_rising (Z : Fx K mg base Ts fa fdd ca ta) {A : Around} {outer : List Env} {s : Shared} {H : Hp} {E : XK} {F0 : List Addr} (hr : Room 0 (A.deeper (envOfC "_law_are_rising" (defScope s31) s.heap.objs.size (fa 31) (.ref (ca 31))))) : ∃ κ, PDSs (cxOf CX0 P w K mg base N31 "_law_are_rising" (defScope s31) (fa 31) (.ref (ca 31)) A outer s H E).nox (cc0 ⟨K, Ts, g, sa, (n0 :: ns), 2⟩ H F0) κ (defBody s31) rd__law_are_rising ∧ κ ≤ cost__law_are_rising :=
  ⟨_, (ss_one (s_ret (d_cmp (op_eqP hr) od_cmp (PD.pp (PN.pd (n_lc (own := [("_law_k", 1)]) rfl sc31.nd (PDI.ppi (i_rng2 (by rfl) Z.b_range (PD.pp d_int) (PD.pp (d_len (by rfl) Z.b_len (PD.pp (d_var (pv 0))))))) (blkOk_by (N := N31) (sc := (defScope s31)) (by first | decide +kernel | kernel_rfl)) (fun _ _ _ _ _ => (g_name (pg_name (i := 1) sc31.nd rfl (Or.inl rfl)))) (fun _ _ _ _ _ => (ts_one (t_not (t_cmp (ol_lt hr) oo_cmp (PD.pp (d_ix (PD.pp (d_var (pv 0))) (PD.pp (d_sub (PD.pp (d_var (pv 1))) (PD.pp d_int))) (fun _ _ => rfl))) (PD.pp (d_ix (PD.pp (d_var (pv 0))) (PD.pp (d_var (pv 1))) (fun _ _ => rfl))) (nomark _))))) (fun _ _ _ _ _ => (d_var (pv 1))) (by decide)))) (PD.pp (PN.pd (n_lst a_nil))) (nomark _)))), by decide +kernel⟩
theorem ok__law_are_rising (Z : Fx K mg base Ts fa fdd ca ta) : FnOk P w K mg base CX0 1 (fa 31) (fdd 31) p31 (spD ⟨K, Ts, g, sa, (n0 :: ns), 2⟩ cost__law_are_rising sp__law_are_rising) := okD Z.F31 Z.c31 sc31 c1 fun A outer s H E F0 hr => ⟨_, dv__law_are_rising Z hr, fun ss R h => by
  obtain ⟨d, rfl, h⟩ := sp1_ok h
  obtain ⟨ds, rfl, hl, hc, h⟩ := onL_ok h
  unfold rd__law_are_rising
  decreasing_tactic
  refine ⟨⟨by decide, by decide, by omega, by omega⟩, ?_⟩
  have nn : ((ds.length : Int) - 1).toNat = ds.length - 1 := by omega
  rw [nn]
  refine left_nil (f := stepOk ds) (by rw [rngD_len]; exact fewer (by omega)) (fun d m Q q => ?_) (fun d m Q q => q) (by rw [steps_rise]; exact h)
  obtain ⟨i, hi, rfl⟩ := rngD_mem m
  have l1 : i < ds.length := by omega
  have l2 : i + 1 < ds.length := by omega
  have g1 : ds[i]? = some ds[i] := List.getElem?_eq_getElem l1
  have g2 : ds[i + 1]? = some ds[i + 1] := List.getElem?_eq_getElem l2
  have e1 : ((1 : Int) + (i : Int)).toNat = i + 1 := by omega
  have q : Q (!PySem.W.dataLt ds[i] ds[i + 1]) := by simpa only [stepOk, e1, Nat.add_sub_cancel, g1, g2] using q
  decreasing_tactic
  show onO (atI ds (1 + (i : Int) - 1)) _
  rw [show (1 + (i : Int) - 1) = (i : Int) by omega, atI_get g1]
  show ixO (.list ds) (.int (1 + (i : Int))) _
  show onO (atI ds (1 + (i : Int))) _
  rw [show (1 + (i : Int)) = ((i + 1 : Nat) : Int) by omega, atI_get g2]
  obtain ⟨c1, c2⟩ := hc ds[i] (List.getElem_mem l1) ds[i + 1] (List.getElem_mem l2)
  show ltO ds[i] ds[i + 1] (fun d => onB d fun c => Q (!c))
  generalize ds[i] = x at *
  generalize ds[i + 1] = y at *
  cases x with
  | int j => exact absurd rfl (c2 j)
  | _ => cases y <;> exact ⟨c1, q⟩⟩
end
end K62

namespace K62
open PySem PySem.Spec PyProof.Rows L2 GX DL
local macro_rules | `(tactic| decreasing_tactic) => `(tactic| (repeat (first | with_reducible refine i_seq ?_ | with_reducible refine i_ret ?_ | with_reducible refine i_retN ?_ | with_reducible refine i_nil ?_ | with_reducible refine i_if ?_ | with_reducible refine i_asg ?_ | with_reducible refine i_own ?_ | with_reducible refine i_for ?_ | with_reducible refine i_forL ?_ | with_reducible refine i_c ?_ | with_reducible refine i_o ?_ | with_reducible refine i_ch ?_ | with_reducible refine i_tr ?_ | with_reducible refine i_tru ?_ | with_reducible refine i_andT ?_ | with_reducible refine i_orT ?_ | with_reducible refine i_notT ?_ | with_reducible refine i_andD ?_ | with_reducible refine i_orD ?_ | with_reducible refine i_notD ?_ | with_reducible refine i_ifD ?_ | with_reducible refine i_isi ?_ | with_reducible refine i_b1 ?_ | with_reducible refine i_m1 ?_ | with_reducible refine i_neg ?_ | with_reducible refine i_call ?_ | with_reducible refine i_dSA ?_ | with_reducible refine i_fnSA ?_ | with_reducible refine i_nilSA ?_ | with_reducible refine i_tup ?_ | with_reducible refine i_lst ?_ | with_reducible refine i_asL ?_ | with_reducible refine i_nilA ?_ | with_reducible refine i_consA ?_ | with_reducible refine i_sl ?_ | with_reducible refine i_slN ?_ | with_reducible refine i_noO ?_ | with_reducible refine i_someO ?_ | with_reducible refine i_rev ?_ | with_reducible refine i_gN ?_ | with_reducible refine i_gC ?_ | with_reducible refine i_gNil ?_ | with_reducible refine i_lc ?_ | with_reducible refine i_lcL ?_ | with_reducible refine i_aa ?_ | with_reducible refine i_tupN ?_ | with_reducible refine i_seqI ?_ | with_reducible refine i_rg1 ?_ | with_reducible refine i_rg2 ?_ | with_reducible refine i_cat ?_ | with_reducible refine i_list1 ?_ | with_reducible refine i_sort ?_ | with_reducible refine i_yes ?_ | with_reducible refine i_onB ?_ | with_reducible refine i_onI ?_ | with_reducible refine i_onS ?_ | with_reducible refine i_onT ?_ | with_reducible refine i_onL ?_ | with_reducible refine i_wT ?_ | with_reducible refine i_wL ?_ | with_reducible refine i_wS ?_ | with_reducible refine i_itT ?_ | with_reducible refine i_itL ?_ | with_reducible refine i_lenT ?_ | with_reducible refine i_lenL ?_ | with_reducible refine i_ix0 ?_ | with_reducible refine i_ix1 ?_ | with_reducible refine i_ix2 ?_ | with_reducible refine i_ix3 ?_ | with_reducible refine i_tuple1L ?_ | with_reducible refine i_tuple1T ?_ | with_reducible refine i_addI ?_ | with_reducible refine i_subI ?_ | with_reducible refine i_ltI ?_ | with_reducible refine i_intB ?_ | with_reducible refine i_s1 ?_ | with_reducible refine i_s2 ?_ | with_reducible refine i_s3 ?_ | with_reducible refine i_sF0 ?_ | with_reducible refine i_sF1 ?_ | with_reducible refine i_tt ?_ | with_reducible refine i_ff ?_ | with_reducible refine i_ntt ?_ | with_reducible refine i_nff ?_ | with_reducible refine i_dict ?_ | with_reducible refine i_rep ?_ | with_reducible refine i_slL ?_ | with_reducible refine i_slT ?_ | with_reducible refine i_newD ?_ | with_reducible refine i_dictO ?_ | with_reducible refine i_call0 ?_ | with_reducible refine i_s00 ?_ | with_reducible refine i_v (by with_unfolding_all rfl) ?_ | with_reducible refine i_vP (by with_unfolding_all rfl) ?_ | with_reducible refine i_vO (by with_unfolding_all rfl) ?_ | with_reducible refine i_feedSA (by with_unfolding_all rfl) ?_ | with_reducible refine i_callL (by with_unfolding_all rfl) ?_ | with_reducible refine i_gT (by with_unfolding_all rfl) ?_ | with_reducible refine i_app (by with_unfolding_all rfl) ?_ | with_reducible refine i_ext (by with_unfolding_all rfl) ?_ | with_reducible refine i_frz (by with_unfolding_all rfl) ?_ | with_reducible refine ifNT (by with_unfolding_all rfl) ?_ | with_reducible refine ifNF (by with_unfolding_all rfl) ?_ | with_reducible refine ifT (by with_unfolding_all rfl) ?_ | with_reducible refine ifF (by with_unfolding_all rfl) ?_ | with_reducible refine i_setD (by with_unfolding_all rfl) ?_ | with_reducible refine i_ixN (by with_unfolding_all rfl) ?_ | with_reducible refine i_inN (by with_unfolding_all rfl) ?_ | with_reducible refine i_sortDO (by with_unfolding_all rfl) ?_ | with_reducible refine i_szL (by with_unfolding_all rfl) ?_ | with_reducible refine i_eq1 (by with_unfolding_all rfl) ?_ | with_reducible refine i_eq2 (by with_unfolding_all rfl) ?_ | with_reducible refine i_in1 (by with_unfolding_all rfl) ?_ | with_reducible refine i_in2 (by with_unfolding_all rfl) ?_ | with_reducible refine i_nin1 (by with_unfolding_all rfl) ?_ | with_reducible refine i_nin2 (by with_unfolding_all rfl) ?_ | with_reducible refine i_catL (by with_unfolding_all rfl) ?_ | with_reducible refine i_catT (by with_unfolding_all rfl) ?_ | with_reducible refine i_rgc (by with_unfolding_all rfl) ?_ | with_reducible refine i_rgl (by with_unfolding_all rfl) ?_)))
/-! ### _law_any_seat -/
@[reducible] def sp__law_any_seat : SpecD := spF0 fun R => ∀ d, NA.seatD d = true → R d
def SeatJ (j : Nat) (ρ : DEnv) : Prop := ∃ (a2 : Option SV) (r : Int) (zs : List PyData), ρ = [some .feed, some (.d (.tuple (.int r :: zs))), a2] ∧ 0 ≤ r ∧ r < 4 ∧ zs.length = j ∧ ∀ z ∈ zs, ∃ i : Int, z = .int i ∧ 1 ≤ i ∧ i ≤ 99
theorem seat_of {r : Int} {zs : List PyData} (h0 : 0 ≤ r) (h1 : r < 4) (hl : zs.length ≤ 4) (hz : ∀ z ∈ zs, ∃ i : Int, z = .int i ∧ 1 ≤ i ∧ i ≤ 99) : NA.seatD (.tuple (.int r :: zs)) = true := by
  show (decide (zs.length ≤ 4) && (NA.btwD (.int r) 0 3 && zs.all fun y => NA.btwD y 1 99)) = true
  rw [decide_eq_true hl, int_btw h0 (by omega), Bool.true_and, Bool.true_and, List.all_eq_true]
  intro z hz'
  obtain ⟨i, rfl, i1, i2⟩ := hz z hz'
  exact int_btw i1 i2
def cost__law_any_seat : Nat := 18446744073709551618
def rd__law_any_seat : DS := (seqS (asgS (tupD (consA (callD (specTake 1000000) (feedSA 0 (dSA (cD (.int 4)) nilSA))) nilA)) (gN 1)) (seqS (forSL 18446744073709551616 (rng1 (oD ixO (asL (lstN (consA (cD (.int 0)) (consA (cD (.int 0)) (consA (cD (.int 0)) (consA (cD (.int 1)) (consA (cD (.int 1)) (consA (cD (.int 2)) (consA (cD (.int 4)) nilA))))))))) (callD (specTake 1000000) (feedSA 0 (dSA (cD (.int 7)) nilSA))))) (gN 2) (asgS (oD addO (vD 1) (tupD (consA (oD ixO (asL (lstN (consA (cD (.int 1)) (consA (cD (.int 2)) (consA (cD (.int 99)) nilA))))) (callD (specTake 1000000) (feedSA 0 (dSA (cD (.int 3)) nilSA)))) nilA))) (gN 1))) (retS (vD 1))))
section
variable {P : Program} {w : World} {K : PySem.W.Frag} {mg : Str → Option Value} {base : Heap} {Ts : List Addr} {fa : Nat → Addr} {fdd : Nat → FuncData} {ca ta : Nat → Addr} {g : Option Addr} {sa ga : Addr} {n0 : Int} {ns : List Int}
theorem dv__law_any_seat (Z : Fx K mg base Ts fa fdd ca ta) {A : Around} {outer : List Env} {s : Shared} {H : Hp} {E : XK} {F0 : List Addr} (hr : Room 1 (A.deeper (envOfC "_law_any_seat" (defScope s32) s.heap.objs.size (fa 32) (.ref (ca 32))))) : ∃ κ, PDSs (cxOf CX0 P w K mg base N32 "_law_any_seat" (defScope s32) (fa 32) (.ref (ca 32)) A outer s H E).nox (cc0 ⟨K, Ts, (some ga), sa, (n0 :: ns), 2⟩ H F0) κ (defBody s32) rd__law_any_seat ∧ κ ≤ cost__law_any_seat :=
  ⟨_, (ss_cons (s_asg (d_tup (a_cons (d_call (ok__law_next Z) (hr.mono (by decide)) rfl Z.g24 Z.F24.kp Z.b24 (sa_feed (pv 0) (sa_d d_int sa_nil))) a_nil)) (g_name (pg_name (i := 1) sc32.nd rfl (by first | exact Or.inl rfl | exact Or.inr rfl)))) (ss_cons (s_forL 18446744073709551616 PassesOwn.never rfl (i_rng1 (by rfl) Z.b_range (PD.pp (d_ix (PD.pp (PN.pd (n_lst (a_cons d_int (a_cons d_int (a_cons d_int (a_cons d_int (a_cons d_int (a_cons d_int (a_cons d_int a_nil)))))))))) (PD.pp (d_call (ok__law_next Z) (hr.mono (by decide)) rfl Z.g24 Z.F24.kp Z.b24 (sa_feed (pv 0) (sa_d d_int sa_nil)))) (fun _ _ => rfl)))) (fun _ => (g_name (pg_name (i := 2) sc32.nd rfl (by first | exact Or.inl rfl | exact Or.inr rfl)))) (fun _ => (ss_one (s_asg (d_add (PD.pp (d_var (pv 1))) (PD.pp (d_tup (a_cons (d_ix (PD.pp (PN.pd (n_lst (a_cons d_int (a_cons d_int (a_cons d_int a_nil)))))) (PD.pp (d_call (ok__law_next Z) (hr.mono (by decide)) rfl Z.g24 Z.F24.kp Z.b24 (sa_feed (pv 0) (sa_d d_int sa_nil)))) (fun _ _ => rfl)) a_nil)))) (g_name (pg_name (i := 1) sc32.nd rfl (by first | exact Or.inl rfl | exact Or.inr rfl))))))) (ss_one (s_ret (d_var (pv 1)))))), by decide +kernel⟩
theorem ok__law_any_seat (Z : Fx K mg base Ts fa fdd ca ta) : FnOk P w K mg base CX0 2 (fa 32) (fdd 32) p32 (spD ⟨K, Ts, (some ga), sa, (n0 :: ns), 2⟩ cost__law_any_seat sp__law_any_seat) := okD Z.F32 Z.c32 sc32 cF0 fun A outer s H E F0 hr => ⟨_, dv__law_any_seat Z hr, fun ss R h => by
  obtain ⟨rfl, h⟩ := spF0_ok h
  unfold rd__law_any_seat
  decreasing_tactic
  refine i_draw (by decide) (by decide) fun r r0 r1 => ?_
  decreasing_tactic
  refine i_draw (by decide) (by decide) fun k k0 k1 => ?_
  refine i_pick k0 (by show k < 7; omega) fun x hx => ?_
  have hx : ∃ n : Int, x = .int n ∧ 0 ≤ n ∧ n ≤ 4 := by
    simp only [List.mem_cons, List.mem_nil_iff, or_false] at hx
    rcases hx with rfl | rfl | rfl | rfl | rfl | rfl | rfl <;> exact ⟨_, rfl, by decide, by decide⟩
  obtain ⟨n, rfl, n0, n1⟩ := hx
  decreasing_tactic
  refine ⟨by omega, by omega, by rw [rngD_len]; omega, ?_⟩
  refine for_steps SeatJ (i := 0) (fun d hd j j0 j1 ρ jj => ?_) ⟨none, r, [], rfl, r0, r1, rfl, fun z hz => (nomatch hz)⟩ (fun ρ2 j2 => ?_) (fun d hd ρ P Q m p => m _ p)
  · rw [rngD_len] at j1
    obtain ⟨a2, r, zs, rfl, r0, r1, lz, hz⟩ := jj
    intro N' hnx hct hrt
    decreasing_tactic
    refine i_draw (by decide) (by decide) fun b b0 b1 => ?_
    refine i_pick b0 (by show b < 3; omega) fun x hx => ?_
    have hx : ∃ n : Int, x = .int n ∧ 1 ≤ n ∧ n ≤ 99 := by
      simp only [List.mem_cons, List.mem_nil_iff, or_false] at hx
      rcases hx with rfl | rfl | rfl <;> exact ⟨_, rfl, by decide, by decide⟩
    decreasing_tactic
    refine ⟨few (by show zs.length + 1 + 1 ≤ _; omega), ?_⟩
    refine hnx _ ⟨_, r, zs ++ [x], rfl, r0, r1, by rw [List.length_append]; show zs.length + 1 = _; omega, fun z m => ?_⟩
    rcases List.mem_append.mp m with m | m
    · exact hz z m
    · rw [List.mem_singleton.mp m]
      exact hx
  · obtain ⟨a2, r, zs, rfl, r0, r1, lz, hz⟩ := j2
    rw [rngD_len] at lz
    decreasing_tactic
    exact h _ (seat_of r0 r1 (by omega) hz)⟩
end
/-! ### _law_any_m -/
theorem seat_len {d : PyData} (h : NA.seatD d = true) : ∃ es, d = .tuple es ∧ es.length ≤ 5 := by
  obtain ⟨n, ns, rfl, l, _⟩ := seat_ints h
  exact ⟨_, rfl, by rw [List.length_map, List.length_cons]; omega⟩
@[reducible] def sp__law_any_m : SpecD := spF1 fun s R => NA.seatD s = true ∧ ∀ i : Int, 0 ≤ i → i ≤ 99 → R (.int i)
theorem cAm : ∀ ss R, sp__law_any_m ss R → ss.length = 2 := cF1 (k := fun s R => NA.seatD s = true ∧ ∀ i : Int, 0 ≤ i → i ≤ 99 → R (.int i))
def cost__law_any_m : Nat := 1
def rd__law_any_m : DS := (retS (ifD (tr (oD eqO (b1D lenO (vD 1)) (cD (.int 5)))) (cD (.int 0)) (oD ixO (asL (lstN (consA (cD (.int 0)) (consA (cD (.int 1)) (consA (cD (.int 2)) (consA (cD (.int 99)) nilA)))))) (callD (specTake 1000000) (feedSA 0 (dSA (cD (.int 4)) nilSA))))))
section
variable {P : Program} {w : World} {K : PySem.W.Frag} {mg : Str → Option Value} {base : Heap} {Ts : List Addr} {fa : Nat → Addr} {fdd : Nat → FuncData} {ca ta : Nat → Addr} {g : Option Addr} {sa ga : Addr} {n0 : Int} {ns : List Int}
theorem dv__law_any_m (Z : Fx K mg base Ts fa fdd ca ta) {A : Around} {outer : List Env} {s : Shared} {H : Hp} {E : XK} {F0 : List Addr} (hr : Room 1 (A.deeper (envOfC "_law_any_m" (defScope s33) s.heap.objs.size (fa 33) (.ref (ca 33))))) : ∃ κ, PDSs (cxOf CX0 P w K mg base N33 "_law_any_m" (defScope s33) (fa 33) (.ref (ca 33)) A outer s H E).nox (cc0 ⟨K, Ts, (some ga), sa, (n0 :: ns), 2⟩ H F0) κ (defBody s33) rd__law_any_m ∧ κ ≤ cost__law_any_m :=
  ⟨_, (ss_one (s_ret (d_if (t_cmp (op_eqP hr) od_cmp (PD.pp (d_len (by rfl) Z.b_len (PD.pp (d_var (pv 1))))) (PD.pp d_int) (nomark _)) d_int (d_ix (PD.pp (PN.pd (n_lst (a_cons d_int (a_cons d_int (a_cons d_int (a_cons d_int a_nil))))))) (PD.pp (d_call (ok__law_next Z) (hr.mono (by decide)) rfl Z.g24 Z.F24.kp Z.b24 (sa_feed (pv 0) (sa_d d_int sa_nil)))) (fun _ _ => rfl))))), by decide +kernel⟩
theorem ok__law_any_m (Z : Fx K mg base Ts fa fdd ca ta) : FnOk P w K mg base CX0 2 (fa 33) (fdd 33) p33 (spD ⟨K, Ts, (some ga), sa, (n0 :: ns), 2⟩ cost__law_any_m sp__law_any_m) := okD Z.F33 Z.c33 sc33 cAm fun A outer s H E F0 hr => ⟨_, dv__law_any_m Z hr, fun ss R h0 => by
  obtain ⟨s, rfl, hs, h⟩ := spF1_ok (k := fun s R => NA.seatD s = true ∧ ∀ i : Int, 0 ≤ i → i ≤ 99 → R (.int i)) h0
  clear h0
  obtain ⟨es, rfl, hl⟩ := seat_len hs
  unfold rd__law_any_m
  decreasing_tactic
  refine ifE (b := decide ((es.length : Int) = 5)) (fun _ => ?_) (fun _ => ?_)
  · decreasing_tactic
    exact h _ (by decide) (by decide)
  decreasing_tactic
  refine i_draw (by decide) (by decide) fun b b0 b1 => ?_
  refine i_pick b0 (by show b < 4; omega) fun x hx => ?_
  simp only [List.mem_cons, List.mem_nil_iff, or_false] at hx
  rcases hx with rfl | rfl | rfl | rfl <;> exact h _ (by decide) (by decide)⟩
end
/-! ### _law_any_dots -/
@[reducible] def sp__law_any_dots : SpecD := spF0 fun R => ∀ ds : List PyData, ds.length ≤ 3 → (∀ x ∈ ds, isDot x) → R (.list ds)
def DotsJ (P : Program) (w : World) (K : PySem.W.Frag) (j : Nat) (ρ : DEnv) : Prop := ∃ (a2 : Option SV) (kvs : List (PyData × PyData)), ρ = [some .feed, some (dctO P w K kvs), a2] ∧ KvOk isDot (fun _ => True) j kvs
def cost__law_any_dots : Nat := 340282366920938463518714839652896866305
def rd__law_any_dots (P : Program) (w : World) (K : PySem.W.Frag) : DS := (seqS (newD P w K 1) (seqS (forSL 18446744073709551616 (rng1 (oD ixO (asL (lstN (consA (cD (.int 0)) (consA (cD (.int 1)) (consA (cD (.int 2)) (consA (cD (.int 3)) nilA)))))) (callD (specTake 1000000) (feedSA 0 (dSA (cD (.int 4)) nilSA))))) (gN 2) (setD P w K 1 (tupD (consA (callD sp__law_any_seat (feedSA 0 nilSA)) (consA (oD addO (cD (.int 1)) (callD (specTake 1000000) (feedSA 0 (dSA (cD (.int 3)) nilSA)))) nilA))) (cD (.bool true)))) (retS (asL (sortDO P w K 1)))))
section
variable {P : Program} {w : World} {K : PySem.W.Frag} {mg : Str → Option Value} {base : Heap} {Ts : List Addr} {fa : Nat → Addr} {fdd : Nat → FuncData} {ca ta : Nat → Addr} {g : Option Addr} {sa ga : Addr} {n0 : Int} {ns : List Int}
theorem dv__law_any_dots (Z : Fx K mg base Ts fa fdd ca ta) {A : Around} {outer : List Env} {s : Shared} {H : Hp} {E : XK} {F0 : List Addr} (hr : Room 2 (A.deeper (envOfC "_law_any_dots" (defScope s34) s.heap.objs.size (fa 34) (.ref (ca 34))))) : ∃ κ, PDSs (cxOf CX0 P w K mg base N34 "_law_any_dots" (defScope s34) (fa 34) (.ref (ca 34)) A outer s H E).nox (cc0 ⟨K, Ts, (some ga), sa, (n0 :: ns), 2⟩ H F0) κ (defBody s34) (rd__law_any_dots P w K) ∧ κ ≤ cost__law_any_dots :=
  ⟨_, (ss_cons (s_newD (i := 1) (pg_name (i := 1) sc34.nd rfl (by first | exact Or.inl rfl | exact Or.inr rfl))) (ss_cons (s_forL 18446744073709551616 PassesOwn.never rfl (i_rng1 (by rfl) Z.b_range (PD.pp (d_ix (PD.pp (PN.pd (n_lst (a_cons d_int (a_cons d_int (a_cons d_int (a_cons d_int a_nil))))))) (PD.pp (d_call (ok__law_next Z) (hr.mono (by decide)) rfl Z.g24 Z.F24.kp Z.b24 (sa_feed (pv 0) (sa_d d_int sa_nil)))) (fun _ _ => rfl)))) (fun _ => (g_name (pg_name (i := 2) sc34.nd rfl (by first | exact Or.inl rfl | exact Or.inr rfl)))) (fun _ => (ss_one (s_setD hr (pv 1) (d_tup (a_cons (d_call (ok__law_any_seat Z) (hr.mono (by decide)) rfl Z.g32 Z.F32.kp Z.b32 (sa_feed (pv 0) sa_nil)) (a_cons (d_add (PD.pp d_int) (PD.pp (d_call (ok__law_next Z) (hr.mono (by decide)) rfl Z.g24 Z.F24.kp Z.b24 (sa_feed (pv 0) (sa_d d_int sa_nil))))) a_nil))) d_bl)))) (ss_one (s_ret (PN.pd (n_sortDO rfl hr (by rfl) Z.b_sorted (pv 1))))))), by decide +kernel⟩
theorem ok__law_any_dots (Z : Fx K mg base Ts fa fdd ca ta) : FnOk P w K mg base CX0 3 (fa 34) (fdd 34) p34 (spD ⟨K, Ts, (some ga), sa, (n0 :: ns), 2⟩ cost__law_any_dots sp__law_any_dots) := okD Z.F34 Z.c34 sc34 cF0 fun A outer s H E F0 hr => ⟨_, dv__law_any_dots Z hr, fun ss R h => by
  obtain ⟨rfl, h⟩ := spF0_ok h
  unfold rd__law_any_dots
  decreasing_tactic
  refine i_draw (by decide) (by decide) fun k k0 k1 => ?_
  refine i_pick k0 (by show k < 4; omega) fun x hx => ?_
  have hx : ∃ n : Int, x = .int n ∧ 0 ≤ n ∧ n ≤ 3 := by
    simp only [List.mem_cons, List.mem_nil_iff, or_false] at hx
    rcases hx with rfl | rfl | rfl | rfl <;> exact ⟨_, rfl, by decide, by decide⟩
  obtain ⟨n, rfl, n0, n1⟩ := hx
  decreasing_tactic
  refine ⟨by omega, by omega, by rw [rngD_len]; omega, ?_⟩
  refine for_steps (DotsJ P w K) (i := 0) (fun d hd j j0 j1 ρ jj => ?_) ⟨none, [], rfl, .nil⟩ (fun ρ2 j2 => ?_) (fun d hd ρ P Q m p => m _ p)
  · rw [rngD_len] at j1
    obtain ⟨a2, kvs, rfl, hk⟩ := jj
    intro N' hnx hct hrt
    decreasing_tactic
    intro s hs
    decreasing_tactic
    refine i_draw (by decide) (by decide) fun b b0 b1 => ?_
    decreasing_tactic
    have hd : isDot (.tuple [s, .int (1 + b)]) := ⟨s, _, rfl, hs, by omega, by omega⟩
    exact ⟨kp_dot.ke _ hd, hk.few (by omega), hnx _ ⟨_, _, rfl, hk.put hd trivial⟩⟩
  · obtain ⟨a2, kvs, rfl, hk⟩ := j2
    rw [rngD_len] at hk
    decreasing_tactic
    refine kv_sort kp_dot hk (by omega) ?_
    decreasing_tactic
    exact h _ (by rw [srt_len, List.length_map]; have := hk.1; omega) fun x hx => (kv_each hk hx).1⟩
end
/-! ### _law_any_thing -/
@[reducible] def sp__law_any_thing : SpecD := spF0 fun R => ∀ d, Md 0 20 3 d → R d
def cost__law_any_thing : Nat := 18446744073709551622
def rd__law_any_thing : DS := (seqS (asgS (ifD (tr (oD gtO (callD (specTake 1000000) (feedSA 0 (dSA (cD (.int 3)) nilSA))) (cD (.int 0)))) (tupD nilA) (tupD (consA (callD sp__law_any_seat (feedSA 0 nilSA)) (consA (oD addO (cD (.int 1)) (callD (specTake 1000000) (feedSA 0 (dSA (cD (.int 3)) nilSA)))) nilA)))) (gN 1)) (seqS (asgS (oD ixO (asL (lstN (consA (cD (.str "a")) (consA (cD (.str "abcdefgh")) (consA (cD (.str "zz")) nilA))))) (callD (specTake 1000000) (feedSA 0 (dSA (cD (.int 3)) nilSA)))) (gN 2)) (retS (tupD (consA (vD 1) (consA (vD 2) (consA (oD ixO (asL (lstN (consA (cD (.int 0)) (consA (cD (.int 1)) (consA (negD (cD (.int 1))) (consA (cD (.int 999)) (consA (negD (cD (.int 999))) nilA))))))) (callD (specTake 1000000) (feedSA 0 (dSA (cD (.int 5)) nilSA)))) nilA)))))))
section
variable {P : Program} {w : World} {K : PySem.W.Frag} {mg : Str → Option Value} {base : Heap} {Ts : List Addr} {fa : Nat → Addr} {fdd : Nat → FuncData} {ca ta : Nat → Addr} {g : Option Addr} {sa ga : Addr} {n0 : Int} {ns : List Int}
theorem dv__law_any_thing (Z : Fx K mg base Ts fa fdd ca ta) {A : Around} {outer : List Env} {s : Shared} {H : Hp} {E : XK} {F0 : List Addr} (hr : Room 2 (A.deeper (envOfC "_law_any_thing" (defScope s35) s.heap.objs.size (fa 35) (.ref (ca 35))))) : ∃ κ, PDSs (cxOf CX0 P w K mg base N35 "_law_any_thing" (defScope s35) (fa 35) (.ref (ca 35)) A outer s H E).nox (cc0 ⟨K, Ts, (some ga), sa, (n0 :: ns), 2⟩ H F0) κ (defBody s35) rd__law_any_thing ∧ κ ≤ cost__law_any_thing :=
  ⟨_, (ss_cons (s_asg (d_if (t_cmp (ol_gt hr) oo_cmp (PD.pp (d_call (ok__law_next Z) (hr.mono (by decide)) rfl Z.g24 Z.F24.kp Z.b24 (sa_feed (pv 0) (sa_d d_int sa_nil)))) (PD.pp d_int) (nomark _)) (d_tup a_nil) (d_tup (a_cons (d_call (ok__law_any_seat Z) (hr.mono (by decide)) rfl Z.g32 Z.F32.kp Z.b32 (sa_feed (pv 0) sa_nil)) (a_cons (d_add (PD.pp d_int) (PD.pp (d_call (ok__law_next Z) (hr.mono (by decide)) rfl Z.g24 Z.F24.kp Z.b24 (sa_feed (pv 0) (sa_d d_int sa_nil))))) a_nil)))) (g_name (pg_name (i := 1) sc35.nd rfl (by first | exact Or.inl rfl | exact Or.inr rfl)))) (ss_cons (s_asg (d_ix (PD.pp (PN.pd (n_lst (a_cons d_str (a_cons d_str (a_cons d_str a_nil)))))) (PD.pp (d_call (ok__law_next Z) (hr.mono (by decide)) rfl Z.g24 Z.F24.kp Z.b24 (sa_feed (pv 0) (sa_d d_int sa_nil)))) (fun _ _ => rfl)) (g_name (pg_name (i := 2) sc35.nd rfl (by first | exact Or.inl rfl | exact Or.inr rfl)))) (ss_one (s_ret (d_tup (a_cons (d_var (pv 1)) (a_cons (d_var (pv 2)) (a_cons (d_ix (PD.pp (PN.pd (n_lst (a_cons d_int (a_cons d_int (a_cons (d_neg (PD.pp d_int)) (a_cons d_int (a_cons (d_neg (PD.pp d_int)) a_nil)))))))) (PD.pp (d_call (ok__law_next Z) (hr.mono (by decide)) rfl Z.g24 Z.F24.kp Z.b24 (sa_feed (pv 0) (sa_d d_int sa_nil)))) (fun _ _ => rfl)) a_nil)))))))), by decide +kernel⟩
theorem ok__law_any_thing (Z : Fx K mg base Ts fa fdd ca ta) : FnOk P w K mg base CX0 3 (fa 35) (fdd 35) p35 (spD ⟨K, Ts, (some ga), sa, (n0 :: ns), 2⟩ cost__law_any_thing sp__law_any_thing) := okD Z.F35 Z.c35 sc35 cF0 fun A outer s H E F0 hr => ⟨_, dv__law_any_thing Z hr, fun ss R h => by
  obtain ⟨rfl, h⟩ := spF0_ok h
  unfold rd__law_any_thing
  decreasing_tactic
  refine i_draw (by decide) (by decide) fun k k0 k1 => ?_
  decreasing_tactic
  refine ifE (b := decide ((0 : Int) < k)) (fun _ => ?_) (fun _ => ?_)
  · decreasing_tactic
    refine i_draw (by decide) (by decide) fun b b0 b1 => ?_
    refine i_pick b0 (by show b < 3; omega) fun x hx => ?_
    have hx : Md 0 8 2 x := by
      simp only [List.mem_cons, List.mem_nil_iff, or_false] at hx
      rcases hx with rfl | rfl | rfl <;> exact md_of (by decide +kernel)
    decreasing_tactic
    refine i_draw (by decide) (by decide) fun c c0 c1 => ?_
    refine i_pick c0 (by show c < 5; omega) fun y hy => ?_
    have hy : Md 0 0 2 y := by
      simp only [List.mem_cons, List.mem_nil_iff, or_false] at hy
      rcases hy with rfl | rfl | rfl | rfl | rfl <;> exact md_of (by decide +kernel)
    decreasing_tactic
    exact h _ (md3 (md_of (b := 7) (by decide +kernel)) hx hy (by decide))
  decreasing_tactic
  intro s hs
  decreasing_tactic
  refine i_draw (by decide) (by decide) fun b b0 b1 => ?_
  decreasing_tactic
  have hdot := md_dot (b := 7) (k := 2) (d := .tuple [s, .int (1 + b)]) ⟨s, _, rfl, hs, by omega, by omega⟩ (by decide) (by decide)
  refine i_draw (by decide) (by decide) fun b b0 b1 => ?_
  refine i_pick b0 (by show b < 3; omega) fun x hx => ?_
  have hx : Md 0 8 2 x := by
    simp only [List.mem_cons, List.mem_nil_iff, or_false] at hx
    rcases hx with rfl | rfl | rfl <;> exact md_of (by decide +kernel)
  decreasing_tactic
  refine i_draw (by decide) (by decide) fun c c0 c1 => ?_
  refine i_pick c0 (by show c < 5; omega) fun y hy => ?_
  have hy : Md 0 0 2 y := by
    simp only [List.mem_cons, List.mem_nil_iff, or_false] at hy
    rcases hy with rfl | rfl | rfl | rfl | rfl <;> exact md_of (by decide +kernel)
  decreasing_tactic
  exact h _ (md3 hdot hx hy (by decide))⟩
end
/-! ### _law_bent -/
def bentK (n : Nat) : PyData → (PyData → Prop) → Prop := fun d R => ∃ a k, k ≤ n ∧ a ≤ 900000 ∧ k ≤ 60 ∧ okD' a d = true ∧ d.bulk ≤ 100000 ∧ d.depth ≤ k ∧ ∀ z, okD' (a + 100) z = true → z.bulk ≤ 2 * d.bulk + 100 → z.depth ≤ k + 3 → R z
@[reducible] def sp__law_bent : Nat → SpecD
  | 0 => fun _ _ => False
  | n + 1 => spF1 (bentK n)
theorem ok_tupI {a : Nat} {ds : List PyData} : okD' a (.tuple ds) = true ↔ ∀ d ∈ ds, okD' a d = true := okAll_iff
theorem ok_lstI {a : Nat} {ds : List PyData} : okD' a (.list ds) = true ↔ ∀ d ∈ ds, okD' a d = true := okAll_iff
theorem take_le {ds : List PyData} {n : Nat} : PyData.bulkAll (ds.take n) ≤ PyData.bulkAll ds := by
  have := congrArg PyData.bulkAll (List.take_append_drop n ds)
  rw [bulkAll_cat] at this
  omega
theorem drop_le {ds : List PyData} {n : Nat} : PyData.bulkAll (ds.drop n) ≤ PyData.bulkAll ds := by
  have := congrArg PyData.bulkAll (List.take_append_drop n ds)
  rw [bulkAll_cat] at this
  omega
/-- the odd thing -/
def OddK (d : PyData) : Prop := Md 0 4 2 d
theorem tup_h {a k B : Nat} {R : PyData → Prop} {es : List PyData} (h : ∀ z, okD' (a + 100) z = true → z.bulk ≤ B → z.depth ≤ k + 4 → R z) (he : ∀ d ∈ es, okD' (a + 100) d = true ∧ d.depth ≤ k + 3) (hb : PyData.bulkAll es ≤ B) : R (.tuple es) := h _ (ok_tupI.mpr fun d m => (he d m).1) hb (depth_tup.mpr fun d m => (he d m).2)
def cost__law_bent (n : Nat) : Nat := (n + 1) * 6
def rd__law_bent (n : Nat) : DS := (seqS (ifS (andT (tr (isiD NA.isT (vD 1))) (andT (tr (oD neO (vD 1) (tupD nilA))) (tr (oD gtO (callD (specTake 1000000) (feedSA 0 (dSA (cD (.int 8)) nilSA))) (cD (.int 0)))))) (seqS (asgS (callD (specTake 1000000) (feedSA 0 (dSA (b1D lenO (vD 1)) nilSA))) (gN 2)) (retS (oD addO (oD addO (slD (vD 1) noO (someO (vD 2))) (tupD (consA (callD (sp__law_bent n) (feedSA 0 (dSA (oD ixO (vD 1) (vD 2)) nilSA))) nilA))) (slD (vD 1) (someO (oD addO (vD 2) (cD (.int 1)))) noO)))) nilS) (seqS (asgS (asL (lstN (consA (cD .none) (consA (cD (.bool true)) (consA (cD (.bool false)) (consA (cD (.int 0)) (consA (cD (.int 1)) (consA (negD (cD (.int 1))) (consA (cD (.int 5)) (consA (cD (.int 100)) (consA (cD (.str "")) (consA (cD (.str "a")) (consA (cD (.str "A")) (consA (tupD nilA) (consA (asL (lstN nilA)) (consA (tupD (consA (cD (.int 0)) nilA)) (consA (tupD (consA (tupD (consA (cD (.int 0)) nilA)) (consA (cD (.int 1)) nilA))) (consA (oD powO (cD (.int 10)) (cD (.int 39))) nilA)))))))))))))))))) (gN 3)) (seqS (asgS (oD ixO (vD 3) (callD (specTake 1000000) (feedSA 0 (dSA (cD (.int 16)) nilSA)))) (gN 4)) (seqS (asgS (callD (specTake 1000000) (feedSA 0 (dSA (cD (.int 8)) nilSA))) (gN 5)) (seqS (ifS (andT (tr (isiD NA.isT (vD 1))) (tr (oD ltO (vD 5) (cD (.int 5))))) (seqS (asgS (callD (specTake 1000000) (feedSA 0 (dSA (oD addO (b1D lenO (vD 1)) (cD (.int 1))) nilSA))) (gN 2)) (seqS (asgS (asL (lstN (consA (asL (list1N (vD 1))) (consA (oD addO (slD (vD 1) noO (someO (vD 2))) (slD (vD 1) (someO (oD addO (vD 2) (cD (.int 1)))) noO)) (consA (oD addO (slD (vD 1) noO (someO (oD addO (vD 2) (cD (.int 1))))) (slD (vD 1) (someO (vD 2)) noO)) (consA (revD (vD 1)) nilA)))))) (gN 3)) (retS (oD ixO (oD addO (vD 3) (asL (lstN (consA (oD addO (vD 1) (tupD (consA (vD 4) nilA))) nilA)))) (vD 5))))) nilS) (seqS (ifS (andT (tr (isiD NA.isI (vD 1))) (andT (notT (tr (isiD NA.isB (vD 1)))) (tr (oD ltO (vD 5) (cD (.int 5)))))) (retS (oD ixO (asL (lstN (consA (oD addO (vD 1) (cD (.int 1))) (consA (oD subO (vD 1) (cD (.int 1))) (consA (negD (vD 1)) (consA (oD eqO (vD 1) (cD (.int 1))) (consA (oD addO (vD 1) (cD (.int 100))) nilA))))))) (vD 5))) nilS) (retS (vD 4))))))))
section
variable {P : Program} {w : World} {K : PySem.W.Frag} {mg : Str → Option Value} {base : Heap} {Ts : List Addr} {fa : Nat → Addr} {fdd : Nat → FuncData} {ca ta : Nat → Addr} {g : Option Addr} {sa ga : Addr} {n0 : Int} {ns : List Int}
theorem dv__law_bent (Z : Fx K mg base Ts fa fdd ca ta) {n : Nat} (ih : FnOk P w K mg base CX0 (n + 2) (fa 36) (fdd 36) p36 (spD ⟨K, Ts, (some ga), sa, (n0 :: ns), 2⟩ (cost__law_bent n) (sp__law_bent n))) {A : Around} {outer : List Env} {s : Shared} {H : Hp} {E : XK} {F0 : List Addr} (hr : Room (n + 2) (A.deeper (envOfC "_law_bent" (defScope s36) s.heap.objs.size (fa 36) (.ref (ca 36))))) : ∃ κ, PDSs (cxOf CX0 P w K mg base N36 "_law_bent" (defScope s36) (fa 36) (.ref (ca 36)) A outer s H E).nox (cc0 ⟨K, Ts, (some ga), sa, (n0 :: ns), 2⟩ H F0) κ (defBody s36) (rd__law_bent n) ∧ κ ≤ cost__law_bent (n + 1) :=
  ⟨_, (ss_cons (s_if (PW.pt (w_and (t_val (d_isi (T := "tuple") (fun _ _ _ h => NA.kitTuple h) (by rfl) Z.b_isinstance (PD.pp (d_var (pv 1))) (pe_bltn (by rfl) Z.b_tuple (by decide +kernel) (v := .ty "tuple") rfl))) (w_and (t_cmp (op_neP hr) od_cmp (PD.pp (d_var (pv 1))) (PD.pp (d_tup a_nil)) (nomark _)) (w_and1 (t_cmp (ol_gt hr) oo_cmp (PD.pp (d_call (ok__law_next Z) (hr.mono (by omega)) rfl Z.g24 Z.F24.kp Z.b24 (sa_feed (pv 0) (sa_d d_int sa_nil)))) (PD.pp d_int) (nomark _)))))) (ss_cons (s_asg (d_call (ok__law_next Z) (hr.mono (by omega)) rfl Z.g24 Z.F24.kp Z.b24 (sa_feed (pv 0) (sa_d (d_len (by rfl) Z.b_len (PD.pp (d_var (pv 1)))) sa_nil))) (g_name (pg_name (i := 2) sc36.nd rfl (by first | exact Or.inl rfl | exact Or.inr rfl)))) (ss_one (s_ret (d_add (PD.pp (d_add (PD.pp (d_sl (PD.pp (d_var (pv 1))) o_none (o_some (PD.pp (d_var (pv 2)))))) (PD.pp (d_tup (a_cons (d_call ih hr rfl Z.g36 Z.F36.kp Z.b36 (sa_feed (pv 0) (sa_d (d_ix (PD.pp (d_var (pv 1))) (PD.pp (d_var (pv 2))) (fun _ _ => rfl)) sa_nil))) a_nil))))) (PD.pp (d_sl (PD.pp (d_var (pv 1))) (o_some (PD.pp (d_add (PD.pp (d_var (pv 2))) (PD.pp d_int)))) o_none)))))) ss_nil) (ss_cons (s_asg (PN.pd (n_lst (a_cons d_non (a_cons d_bl (a_cons d_bl (a_cons d_int (a_cons d_int (a_cons (d_neg (PD.pp d_int)) (a_cons d_int (a_cons d_int (a_cons d_str (a_cons d_str (a_cons d_str (a_cons (d_tup a_nil) (a_cons (PN.pd (n_lst a_nil)) (a_cons (d_tup (a_cons d_int a_nil)) (a_cons (d_tup (a_cons (d_tup (a_cons d_int a_nil)) (a_cons d_int a_nil))) (a_cons (d_pow (PD.pp d_int) (PD.pp d_int)) a_nil)))))))))))))))))) (g_name (pg_name (i := 3) sc36.nd rfl (by first | exact Or.inl rfl | exact Or.inr rfl)))) (ss_cons (s_asg (d_ix (PD.pp (d_var (pv 3))) (PD.pp (d_call (ok__law_next Z) (hr.mono (by omega)) rfl Z.g24 Z.F24.kp Z.b24 (sa_feed (pv 0) (sa_d d_int sa_nil)))) (fun _ _ => rfl)) (g_name (pg_name (i := 4) sc36.nd rfl (by first | exact Or.inl rfl | exact Or.inr rfl)))) (ss_cons (s_asg (d_call (ok__law_next Z) (hr.mono (by omega)) rfl Z.g24 Z.F24.kp Z.b24 (sa_feed (pv 0) (sa_d d_int sa_nil))) (g_name (pg_name (i := 5) sc36.nd rfl (by first | exact Or.inl rfl | exact Or.inr rfl)))) (ss_cons (s_if (PW.pt (w_and (t_val (d_isi (T := "tuple") (fun _ _ _ h => NA.kitTuple h) (by rfl) Z.b_isinstance (PD.pp (d_var (pv 1))) (pe_bltn (by rfl) Z.b_tuple (by decide +kernel) (v := .ty "tuple") rfl))) (w_and1 (t_cmp (ol_lt hr) oo_cmp (PD.pp (d_var (pv 5))) (PD.pp d_int) (nomark _))))) (ss_cons (s_asg (d_call (ok__law_next Z) (hr.mono (by omega)) rfl Z.g24 Z.F24.kp Z.b24 (sa_feed (pv 0) (sa_d (d_add (PD.pp (d_len (by rfl) Z.b_len (PD.pp (d_var (pv 1))))) (PD.pp d_int)) sa_nil))) (g_name (pg_name (i := 2) sc36.nd rfl (by first | exact Or.inl rfl | exact Or.inr rfl)))) (ss_cons (s_asg (PN.pd (n_lst (a_cons (PN.pd (n_list1 (by rfl) Z.b_list (PD.pp (d_var (pv 1))))) (a_cons (d_add (PD.pp (d_sl (PD.pp (d_var (pv 1))) o_none (o_some (PD.pp (d_var (pv 2)))))) (PD.pp (d_sl (PD.pp (d_var (pv 1))) (o_some (PD.pp (d_add (PD.pp (d_var (pv 2))) (PD.pp d_int)))) o_none))) (a_cons (d_add (PD.pp (d_sl (PD.pp (d_var (pv 1))) o_none (o_some (PD.pp (d_add (PD.pp (d_var (pv 2))) (PD.pp d_int)))))) (PD.pp (d_sl (PD.pp (d_var (pv 1))) (o_some (PD.pp (d_var (pv 2)))) o_none))) (a_cons (d_rev (PD.pp (d_var (pv 1)))) a_nil)))))) (g_name (pg_name (i := 3) sc36.nd rfl (by first | exact Or.inl rfl | exact Or.inr rfl)))) (ss_one (s_ret (d_ix (PD.pp (d_add (PD.pp (d_var (pv 3))) (PD.pp (PN.pd (n_lst (a_cons (d_add (PD.pp (d_var (pv 1))) (PD.pp (d_tup (a_cons (d_var (pv 4)) a_nil)))) a_nil)))))) (PD.pp (d_var (pv 5))) (fun _ _ => rfl)))))) ss_nil) (ss_cons (s_if (PW.pt (w_and (t_val (d_isi (T := "int") (fun _ _ _ h => NA.kitInt h) (by rfl) Z.b_isinstance (PD.pp (d_var (pv 1))) (pe_bltn (by rfl) Z.b_int (by decide +kernel) (v := .ty "int") rfl))) (w_and (t_not (t_val (d_isi (T := "bool") (fun _ _ _ h => NA.kitBool h) (by rfl) Z.b_isinstance (PD.pp (d_var (pv 1))) (pe_bltn (by rfl) Z.b_bool (by decide +kernel) (v := .ty "bool") rfl)))) (w_and1 (t_cmp (ol_lt hr) oo_cmp (PD.pp (d_var (pv 5))) (PD.pp d_int) (nomark _)))))) (ss_one (s_ret (d_ix (PD.pp (PN.pd (n_lst (a_cons (d_add (PD.pp (d_var (pv 1))) (PD.pp d_int)) (a_cons (d_sub (PD.pp (d_var (pv 1))) (PD.pp d_int)) (a_cons (d_neg (PD.pp (d_var (pv 1)))) (a_cons (d_cmp (op_eqP hr) od_cmp (PD.pp (d_var (pv 1))) (PD.pp d_int) (nomark _)) (a_cons (d_add (PD.pp (d_var (pv 1))) (PD.pp d_int)) a_nil)))))))) (PD.pp (d_var (pv 5))) (fun _ _ => rfl)))) ss_nil) (ss_one (s_ret (d_var (pv 4)))))))))), (by simp only [cost__law_bent]; omega)⟩
theorem ok__law_bent (Z : Fx K mg base Ts fa fdd ca ta) : ∀ n : Nat, FnOk P w K mg base CX0 (n + 2) (fa 36) (fdd 36) p36 (spD ⟨K, Ts, (some ga), sa, (n0 :: ns), 2⟩ (cost__law_bent n) (sp__law_bent n))
  | 0 => ⟨fun vs H Q E h => by obtain ⟨_, _, _, _, _, hs, _⟩ := h; exact hs.elim, fun A outer s H args us vs Q E _ _ _ _ h => by obtain ⟨_, _, _, _, _, hs, _⟩ := h; exact hs.elim⟩
  | n + 1 => okD Z.F36 Z.c36 sc36 (cF1 (k := bentK n)) fun A outer s H E F0 hr => ⟨_, dv__law_bent Z (ok__law_bent Z n) hr, fun ss R h0 => by
    obtain ⟨d, rfl, a, k, hkn, ha, hk, ho, hb, hd, h⟩ := spF1_ok (k := bentK n) h0
    clear h0
    have some16 : ∀ {x : PyData}, x ∈ [PyData.none, .bool true, .bool false, .int 0, .int 1, .int (-1), .int 5, .int 100, .str "", .str "a", .str "A", .tuple [], .list [], .tuple [.int 0], .tuple [.tuple [.int 0], .int 1], .int (10 ^ 39)] → OddK x := fun {x} hx => by
      simp only [List.mem_cons, List.mem_nil_iff, or_false] at hx
      rcases hx with rfl | rfl | rfl | rfl | rfl | rfl | rfl | rfl | rfl | rfl | rfl | rfl | rfl | rfl | rfl | rfl <;> exact md_of (by decide +kernel)
    have oddR : ∀ {x : PyData}, OddK x → R x := fun {x} hx => h x (ok_mono (by omega) hx.ok) (Nat.le_trans hx.bulk (by omega)) (Nat.le_trans hx.depth (by omega))
    unfold rd__law_bent
    cases d with
    | tuple ds =>
      have ho := ok_tupI.mp ho
      have hb : PyData.bulkAll ds ≤ 100000 := hb
      have hlen : ds.length ≤ 100000 := Nat.le_trans bulkAll_len hb
      obtain ⟨k, rfl⟩ : ∃ j, k = j + 1 := ⟨k - 1, by
        have e : (PyData.tuple ds).depth = PyData.depthAll ds + 1 := rfl
        omega⟩
      have dep := depth_tup.mp hd
      have h : ∀ z, okD' (a + 100) z = true → z.bulk ≤ 2 * PyData.bulkAll ds + 100 → z.depth ≤ k + 4 → R z := h
      have mono : ∀ d ∈ ds, okD' (a + 100) d = true ∧ d.depth ≤ k + 3 := fun d m => ⟨ok_mono (by omega) (ho d m), by have := dep d m; omega⟩
      -- otherwise
      have odd : ∀ (m : Int), 0 ≤ m → m < ds.length + 1 → ∀ x, OddK x → ∀ r : Int, 0 ≤ r → r < 5 → ∀ o, seqS (asgS (asL (lstN (consA (asL (list1N (vD 1))) (consA (oD addO (slD (vD 1) noO (someO (vD 2))) (slD (vD 1) (someO (oD addO (vD 2) (cD (.int 1)))) noO)) (consA (oD addO (slD (vD 1) noO (someO (oD addO (vD 2) (cD (.int 1))))) (slD (vD 1) (someO (vD 2)) noO)) (consA (revD (vD 1)) nilA)))))) (gN 3)) (retS (oD ixO (oD addO (vD 3) (asL (lstN (consA (oD addO (vD 1) (tupD (consA (vD 4) nilA))) nilA)))) (vD 5))) { nx := fun _ => False, rt := R } [some .feed, some (.d (.tuple ds)), some (.d (.int m)), o, some (.d x), some (.d (.int r))] := fun m m0 m1 x hx r r0 r1 o => by
        obtain ⟨m, rfl⟩ := Int.eq_ofNat_of_zero_le m0
        have c1 : DL.cutD ds none (some (m : Int)) = ds.take m := cutD_to m
        have c2 : DL.cutD ds (some ((m : Int) + 1)) none = ds.drop (m + 1) := cutD_from (m + 1)
        have c3 : DL.cutD ds none (some ((m : Int) + 1)) = ds.take (m + 1) := cutD_to (m + 1)
        have c4 : DL.cutD ds (some (m : Int)) none = ds.drop m := cutD_from m
        decreasing_tactic
        show (DL.cutD ds none (some (m : Int))).length + (DL.cutD ds (some ((m : Int) + 1)) none).length ≤ sizeLine ∧ _
        rw [c1, c2]
        refine ⟨few (by rw [List.length_take, List.length_drop]; omega), ?_⟩
        decreasing_tactic
        show (DL.cutD ds none (some ((m : Int) + 1))).length + (DL.cutD ds (some (m : Int)) none).length ≤ sizeLine ∧ _
        rw [c3, c4]
        refine ⟨few (by rw [List.length_take, List.length_drop]; omega), ?_⟩
        decreasing_tactic
        refine ⟨few (by show ds.length + 1 ≤ _; omega), ?_⟩
        decreasing_tactic
        refine i_pick r0 (by show r < 5; omega) fun z hz => ?_
        have ob := hx.bulk
        have z1 := @take_le ds m
        have z2 := @drop_le ds (m + 1)
        have z3 := @take_le ds (m + 1)
        have z4 := @drop_le ds m
        have hz : z = .list ds ∨ z = .tuple (ds.take m ++ ds.drop (m + 1)) ∨ z = .tuple (ds.take (m + 1) ++ ds.drop m) ∨ z = .tuple ds.reverse ∨ z = .tuple (ds ++ [x]) := by
          simpa only [List.cons_append, List.nil_append, List.mem_cons, List.mem_nil_iff, or_false] using hz
        rcases hz with rfl | rfl | rfl | rfl | rfl
        · exact h _ (ok_lstI.mpr fun d m => (mono d m).1) (by show PyData.bulkAll ds ≤ _; omega) (depth_lst.mpr fun d m => (mono d m).2)
        · exact tup_h h (fun d m => mono d ((List.mem_append.mp m).elim List.mem_of_mem_take List.mem_of_mem_drop)) (by rw [bulkAll_cat]; omega)
        · exact tup_h h (fun d m => mono d ((List.mem_append.mp m).elim List.mem_of_mem_take List.mem_of_mem_drop)) (by rw [bulkAll_cat]; omega)
        · exact tup_h h (fun d m => mono d (List.mem_reverse.mp m)) (by rw [bulkAll_rev]; omega)
        · refine tup_h h (fun d m => ?_) (by rw [bulkAll_cat, bulkAll_cons]; show _ + (_ + 1 + 0) ≤ _; omega)
          rcases List.mem_append.mp m with m | m
          · exact mono d m
          · rw [List.mem_singleton.mp m]
            exact ⟨ok_mono (by omega) hx.ok, Nat.le_trans hx.depth (by omega)⟩
      have rest : seqS (asgS (asL (lstN (consA (cD .none) (consA (cD (.bool true)) (consA (cD (.bool false)) (consA (cD (.int 0)) (consA (cD (.int 1)) (consA (negD (cD (.int 1))) (consA (cD (.int 5)) (consA (cD (.int 100)) (consA (cD (.str "")) (consA (cD (.str "a")) (consA (cD (.str "A")) (consA (tupD nilA) (consA (asL (lstN nilA)) (consA (tupD (consA (cD (.int 0)) nilA)) (consA (tupD (consA (tupD (consA (cD (.int 0)) nilA)) (consA (cD (.int 1)) nilA))) (consA (oD powO (cD (.int 10)) (cD (.int 39))) nilA)))))))))))))))))) (gN 3)) (seqS (asgS (oD ixO (vD 3) (callD (specTake 1000000) (feedSA 0 (dSA (cD (.int 16)) nilSA)))) (gN 4)) (seqS (asgS (callD (specTake 1000000) (feedSA 0 (dSA (cD (.int 8)) nilSA))) (gN 5)) (seqS (ifS (andT (tr (isiD NA.isT (vD 1))) (tr (oD ltO (vD 5) (cD (.int 5))))) (seqS (asgS (callD (specTake 1000000) (feedSA 0 (dSA (oD addO (b1D lenO (vD 1)) (cD (.int 1))) nilSA))) (gN 2)) (seqS (asgS (asL (lstN (consA (asL (list1N (vD 1))) (consA (oD addO (slD (vD 1) noO (someO (vD 2))) (slD (vD 1) (someO (oD addO (vD 2) (cD (.int 1)))) noO)) (consA (oD addO (slD (vD 1) noO (someO (oD addO (vD 2) (cD (.int 1))))) (slD (vD 1) (someO (vD 2)) noO)) (consA (revD (vD 1)) nilA)))))) (gN 3)) (retS (oD ixO (oD addO (vD 3) (asL (lstN (consA (oD addO (vD 1) (tupD (consA (vD 4) nilA))) nilA)))) (vD 5))))) nilS) (seqS (ifS (andT (tr (isiD NA.isI (vD 1))) (andT (notT (tr (isiD NA.isB (vD 1)))) (tr (oD ltO (vD 5) (cD (.int 5)))))) (retS (oD ixO (asL (lstN (consA (oD addO (vD 1) (cD (.int 1))) (consA (oD subO (vD 1) (cD (.int 1))) (consA (negD (vD 1)) (consA (oD eqO (vD 1) (cD (.int 1))) (consA (oD addO (vD 1) (cD (.int 100))) nilA))))))) (vD 5))) nilS) (retS (vD 4)))))) { nx := fun _ => False, rt := R } (startD N36 [.feed, .d (.tuple ds)]) := by
        decreasing_tactic
        refine ⟨⟨by decide, by decide, by decide⟩, ?_⟩
        decreasing_tactic
        refine i_draw (by decide) (by decide) fun q q0 q1 => ?_
        refine i_pick q0 (by show q < 16; omega) fun x hx => ?_
        have hx := some16 hx
        decreasing_tactic
        refine i_draw (by decide) (by decide) fun r r0 r1 => ?_
        decreasing_tactic
        refine ifE (b := decide (r < (5 : Int))) (fun e => ?_) (fun _ => ?_)
        · decreasing_tactic
          refine i_draw (by omega) (by omega) fun m m0 m1 => ?_
          exact odd m m0 m1 x hx r r0 (of_decide_eq_true e) _
        · decreasing_tactic
          exact oddR hx
      decreasing_tactic
      cases ds with
      | nil =>
        refine ifF (by with_unfolding_all rfl) ?_
        exact rest
      | cons x r =>
        refine ifT (by with_unfolding_all rfl) ?_
        decreasing_tactic
        refine i_draw (by decide) (by decide) fun q q0 q1 => ?_
        decreasing_tactic
        refine ifE (b := decide ((0 : Int) < q)) (fun _ => ?_) (fun _ => rest)
        decreasing_tactic
        refine i_draw (by rw [List.length_cons]; omega) (by omega) fun m m0 m1 => ?_
        obtain ⟨m, rfl⟩ := Int.eq_ofNat_of_zero_le m0
        generalize x :: r = ds at *
        have lm : m < ds.length := by omega
        have gm : ds[m]? = some ds[m] := List.getElem?_eq_getElem lm
        decreasing_tactic
        show onO (atI ds (m : Int)) _
        rw [atI_get gm]
        have c1 : DL.cutD ds none (some (m : Int)) = ds.take m := cutD_to m
        have c2 : DL.cutD ds (some ((m : Int) + 1)) none = ds.drop (m + 1) := cutD_from (m + 1)
        obtain ⟨n, rfl⟩ : ∃ j, n = j + 1 := ⟨n - 1, by omega⟩
        have bm := bulkAll_mem (List.getElem_mem lm)
        show spF1 (bentK n) [.feed, .d ds[m]] _
        refine ⟨a, k, by omega, ha, by omega, ho _ (List.getElem_mem lm), by omega, dep _ (List.getElem_mem lm), fun z z1 z2 z3 => ?_⟩
        decreasing_tactic
        show (DL.cutD ds none (some (m : Int))).length + 1 ≤ sizeLine ∧ _
        rw [c1]
        refine ⟨few (by rw [List.length_take]; omega), ?_⟩
        decreasing_tactic
        show (ds.take m ++ [z]).length + (DL.cutD ds (some ((m : Int) + 1)) none).length ≤ sizeLine ∧ _
        rw [c2]
        refine ⟨few (by rw [List.length_append, List.length_take, List.length_drop, List.length_singleton]; omega), ?_⟩
        have w := md_putN (a := a) (c := 100) (b := PyData.bulkAll ds) (k := k) (md_tup.mpr ⟨ho, Nat.le_refl _, dep⟩) gm z1 z2 z3
        exact h _ w.ok w.bulk w.depth
    | int i =>
      have hi : i.natAbs ≤ 10 ^ 39 + a := of_decide_eq_true ho
      obtain ⟨s1, s2, s3, s4⟩ := int_short (by omega) hi
      decreasing_tactic
      refine ⟨⟨by decide, by decide, by decide⟩, ?_⟩
      decreasing_tactic
      refine i_draw (by decide) (by decide) fun q q0 q1 => ?_
      refine i_pick q0 (by show q < 16; omega) fun x hx => ?_
      have hx := some16 hx
      decreasing_tactic
      refine i_draw (by decide) (by decide) fun r r0 r1 => ?_
      decreasing_tactic
      refine ifE (b := decide (r < (5 : Int))) (fun e => ?_) (fun _ => ?_)
      · have e := of_decide_eq_true e
        decreasing_tactic
        refine i_pick r0 (by show r < 5; omega) fun x hx => ?_
        simp only [List.mem_cons, List.mem_nil_iff, or_false] at hx
        rcases hx with rfl | rfl | rfl | rfl | rfl
        · exact h _ (decide_eq_true (by omega)) (Nat.zero_le _) (Nat.zero_le _)
        · exact h _ (decide_eq_true (by omega)) (Nat.zero_le _) (Nat.zero_le _)
        · exact h _ (decide_eq_true (by omega)) (Nat.zero_le _) (Nat.zero_le _)
        · exact h _ rfl (Nat.zero_le _) (Nat.zero_le _)
        · exact h _ (decide_eq_true (by omega)) (Nat.zero_le _) (Nat.zero_le _)
      · decreasing_tactic
        exact oddR hx
    | none =>
      decreasing_tactic
      refine ⟨⟨by decide, by decide, by decide⟩, ?_⟩
      decreasing_tactic
      refine i_draw (by decide) (by decide) fun q q0 q1 => ?_
      refine i_pick q0 (by show q < 16; omega) fun x hx => ?_
      have hx := some16 hx
      decreasing_tactic
      refine i_draw (by decide) (by decide) fun r r0 r1 => ?_
      decreasing_tactic
      exact oddR hx
    | bool b =>
      decreasing_tactic
      refine ⟨⟨by decide, by decide, by decide⟩, ?_⟩
      decreasing_tactic
      refine i_draw (by decide) (by decide) fun q q0 q1 => ?_
      refine i_pick q0 (by show q < 16; omega) fun x hx => ?_
      have hx := some16 hx
      decreasing_tactic
      refine i_draw (by decide) (by decide) fun r r0 r1 => ?_
      decreasing_tactic
      exact oddR hx
    | str x =>
      decreasing_tactic
      refine ⟨⟨by decide, by decide, by decide⟩, ?_⟩
      decreasing_tactic
      refine i_draw (by decide) (by decide) fun q q0 q1 => ?_
      refine i_pick q0 (by show q < 16; omega) fun x hx => ?_
      have hx := some16 hx
      decreasing_tactic
      refine i_draw (by decide) (by decide) fun r r0 r1 => ?_
      decreasing_tactic
      exact oddR hx
    | list xs =>
      decreasing_tactic
      refine ⟨⟨by decide, by decide, by decide⟩, ?_⟩
      decreasing_tactic
      refine i_draw (by decide) (by decide) fun q q0 q1 => ?_
      refine i_pick q0 (by show q < 16; omega) fun x hx => ?_
      have hx := some16 hx
      decreasing_tactic
      refine i_draw (by decide) (by decide) fun r r0 r1 => ?_
      decreasing_tactic
      exact oddR hx
    | dict kvs => cases ho⟩
end
end K62

namespace K62
open PySem PySem.Spec PyProof.Rows L2 GX DL
local macro_rules | `(tactic| decreasing_tactic) => `(tactic| (repeat (first | with_reducible refine i_seq ?_ | with_reducible refine i_ret ?_ | with_reducible refine i_retN ?_ | with_reducible refine i_nil ?_ | with_reducible refine i_if ?_ | with_reducible refine i_asg ?_ | with_reducible refine i_own ?_ | with_reducible refine i_for ?_ | with_reducible refine i_forL ?_ | with_reducible refine i_c ?_ | with_reducible refine i_o ?_ | with_reducible refine i_ch ?_ | with_reducible refine i_tr ?_ | with_reducible refine i_tru ?_ | with_reducible refine i_andT ?_ | with_reducible refine i_orT ?_ | with_reducible refine i_notT ?_ | with_reducible refine i_andD ?_ | with_reducible refine i_orD ?_ | with_reducible refine i_notD ?_ | with_reducible refine i_ifD ?_ | with_reducible refine i_isi ?_ | with_reducible refine i_b1 ?_ | with_reducible refine i_m1 ?_ | with_reducible refine i_neg ?_ | with_reducible refine i_call ?_ | with_reducible refine i_dSA ?_ | with_reducible refine i_fnSA ?_ | with_reducible refine i_nilSA ?_ | with_reducible refine i_tup ?_ | with_reducible refine i_lst ?_ | with_reducible refine i_asL ?_ | with_reducible refine i_nilA ?_ | with_reducible refine i_consA ?_ | with_reducible refine i_sl ?_ | with_reducible refine i_slN ?_ | with_reducible refine i_noO ?_ | with_reducible refine i_someO ?_ | with_reducible refine i_rev ?_ | with_reducible refine i_gN ?_ | with_reducible refine i_gC ?_ | with_reducible refine i_gNil ?_ | with_reducible refine i_lc ?_ | with_reducible refine i_lcL ?_ | with_reducible refine i_aa ?_ | with_reducible refine i_tupN ?_ | with_reducible refine i_seqI ?_ | with_reducible refine i_rg1 ?_ | with_reducible refine i_rg2 ?_ | with_reducible refine i_cat ?_ | with_reducible refine i_list1 ?_ | with_reducible refine i_sort ?_ | with_reducible refine i_yes ?_ | with_reducible refine i_onB ?_ | with_reducible refine i_onI ?_ | with_reducible refine i_onS ?_ | with_reducible refine i_onT ?_ | with_reducible refine i_onL ?_ | with_reducible refine i_wT ?_ | with_reducible refine i_wL ?_ | with_reducible refine i_wS ?_ | with_reducible refine i_itT ?_ | with_reducible refine i_itL ?_ | with_reducible refine i_lenT ?_ | with_reducible refine i_lenL ?_ | with_reducible refine i_ix0 ?_ | with_reducible refine i_ix1 ?_ | with_reducible refine i_ix2 ?_ | with_reducible refine i_ix3 ?_ | with_reducible refine i_tuple1L ?_ | with_reducible refine i_tuple1T ?_ | with_reducible refine i_addI ?_ | with_reducible refine i_subI ?_ | with_reducible refine i_ltI ?_ | with_reducible refine i_intB ?_ | with_reducible refine i_s1 ?_ | with_reducible refine i_s2 ?_ | with_reducible refine i_s3 ?_ | with_reducible refine i_sF0 ?_ | with_reducible refine i_sF1 ?_ | with_reducible refine i_tt ?_ | with_reducible refine i_ff ?_ | with_reducible refine i_ntt ?_ | with_reducible refine i_nff ?_ | with_reducible refine i_dict ?_ | with_reducible refine i_rep ?_ | with_reducible refine i_slL ?_ | with_reducible refine i_slT ?_ | with_reducible refine i_newD ?_ | with_reducible refine i_dictO ?_ | with_reducible refine i_call0 ?_ | with_reducible refine i_s00 ?_ | with_reducible refine i_v (by with_unfolding_all rfl) ?_ | with_reducible refine i_vP (by with_unfolding_all rfl) ?_ | with_reducible refine i_vO (by with_unfolding_all rfl) ?_ | with_reducible refine i_feedSA (by with_unfolding_all rfl) ?_ | with_reducible refine i_callL (by with_unfolding_all rfl) ?_ | with_reducible refine i_gT (by with_unfolding_all rfl) ?_ | with_reducible refine i_app (by with_unfolding_all rfl) ?_ | with_reducible refine i_ext (by with_unfolding_all rfl) ?_ | with_reducible refine i_frz (by with_unfolding_all rfl) ?_ | with_reducible refine ifNT (by with_unfolding_all rfl) ?_ | with_reducible refine ifNF (by with_unfolding_all rfl) ?_ | with_reducible refine ifT (by with_unfolding_all rfl) ?_ | with_reducible refine ifF (by with_unfolding_all rfl) ?_ | with_reducible refine i_setD (by with_unfolding_all rfl) ?_ | with_reducible refine i_ixN (by with_unfolding_all rfl) ?_ | with_reducible refine i_inN (by with_unfolding_all rfl) ?_ | with_reducible refine i_sortDO (by with_unfolding_all rfl) ?_ | with_reducible refine i_szL (by with_unfolding_all rfl) ?_ | with_reducible refine i_eq1 (by with_unfolding_all rfl) ?_ | with_reducible refine i_eq2 (by with_unfolding_all rfl) ?_ | with_reducible refine i_in1 (by with_unfolding_all rfl) ?_ | with_reducible refine i_in2 (by with_unfolding_all rfl) ?_ | with_reducible refine i_nin1 (by with_unfolding_all rfl) ?_ | with_reducible refine i_nin2 (by with_unfolding_all rfl) ?_ | with_reducible refine i_catL (by with_unfolding_all rfl) ?_ | with_reducible refine i_catT (by with_unfolding_all rfl) ?_ | with_reducible refine i_rgc (by with_unfolding_all rfl) ?_ | with_reducible refine i_rgl (by with_unfolding_all rfl) ?_)))
/-! ### _law_any_paper -/
def PapK (d : PyData) : Prop := Md 0 20 2 d
@[reducible] def sp__law_any_paper : SpecD := spF0 fun R => ∀ d, Md 0 70 3 d → R d
def PapJ (P : Program) (w : World) (K : PySem.W.Frag) (j : Nat) (ρ : DEnv) : Prop := ∃ (a2 a3 a4 a5 : Option SV) (kvs : List (PyData × PyData)), ρ = [some .feed, some (dctO P w K kvs), a2, a3, a4, a5] ∧ KvOk isSeat PapK j kvs
theorem mul01 (i : Int) (k : Bool) : CMul i (if k then 1 else 0) ∧ (i * (if k then 1 else 0)).natAbs ≤ i.natAbs := by
  cases k
  · exact ⟨.inr ⟨by decide, by decide⟩, by show (i * 0).natAbs ≤ _; rw [Int.mul_zero]; exact Nat.zero_le _⟩
  · exact ⟨.inr ⟨by decide, by decide⟩, by show (i * 1).natAbs ≤ _; rw [Int.mul_one]; exact Nat.le_refl _⟩
def cost__law_any_paper : Nat := 340282366920938463555608327800315969537
def rd__law_any_paper (P : Program) (w : World) (K : PySem.W.Frag) : DS := (seqS (newD P w K 1) (seqS (forSL 18446744073709551616 (rng1 (callD (specTake 1000000) (feedSA 0 (dSA (cD (.int 4)) nilSA)))) (gN 2) (seqS (asgS (callD sp__law_any_seat (feedSA 0 nilSA)) (gN 3)) (seqS (asgS (oD ixO (asL (lstN (consA (cD (.str "has")) (consA (cD (.str "left")) (consA (cD (.str "cut")) nilA))))) (callD (specTake 1000000) (feedSA 0 (dSA (cD (.int 3)) nilSA)))) (gN 4)) (seqS (asgS (oD mulO (oD ixO (asL (lstN (consA (cD (.int 0)) (consA (cD (.int 3)) (consA (oD powO (cD (.int 10)) (cD (.int 6))) nilA))))) (callD (specTake 1000000) (feedSA 0 (dSA (cD (.int 3)) nilSA)))) (b1D int1O (oD neO (vD 4) (cD (.str "cut"))))) (gN 5)) (setD P w K 1 (vD 3) (tupD (consA (vD 3) (consA (vD 4) (consA (vD 5) (consA (callD sp__law_any_m (feedSA 0 (dSA (vD 3) nilSA))) nilA)))))))))) (retS (b1D tuple1O (asL (lcN (seqI (asL (sortDO P w K 1))) [3] (gN 3) yesT (ixN' P w K 1 (vD 3))))))))
section
variable {P : Program} {w : World} {K : PySem.W.Frag} {mg : Str → Option Value} {base : Heap} {Ts : List Addr} {fa : Nat → Addr} {fdd : Nat → FuncData} {ca ta : Nat → Addr} {g : Option Addr} {sa ga : Addr} {n0 : Int} {ns : List Int}
theorem dv__law_any_paper (Z : Fx K mg base Ts fa fdd ca ta) {A : Around} {outer : List Env} {s : Shared} {H : Hp} {E : XK} {F0 : List Addr} (hr : Room 2 (A.deeper (envOfC "_law_any_paper" (defScope s40) s.heap.objs.size (fa 40) (.ref (ca 40))))) : ∃ κ, PDSs (cxOf CX0 P w K mg base N40 "_law_any_paper" (defScope s40) (fa 40) (.ref (ca 40)) A outer s H E).nox (cc0 ⟨K, Ts, (some ga), sa, (n0 :: ns), 2⟩ H F0) κ (defBody s40) (rd__law_any_paper P w K) ∧ κ ≤ cost__law_any_paper :=
  ⟨_, (ss_cons (s_newD (i := 1) (pg_name (i := 1) sc40.nd rfl (by first | exact Or.inl rfl | exact Or.inr rfl))) (ss_cons (s_forL 18446744073709551616 PassesOwn.never rfl (i_rng1 (by rfl) Z.b_range (PD.pp (d_call (ok__law_next Z) (hr.mono (by decide)) rfl Z.g24 Z.F24.kp Z.b24 (sa_feed (pv 0) (sa_d d_int sa_nil))))) (fun _ => (g_name (pg_name (i := 2) sc40.nd rfl (by first | exact Or.inl rfl | exact Or.inr rfl)))) (fun _ => (ss_cons (s_asg (d_call (ok__law_any_seat Z) (hr.mono (by decide)) rfl Z.g32 Z.F32.kp Z.b32 (sa_feed (pv 0) sa_nil)) (g_name (pg_name (i := 3) sc40.nd rfl (by first | exact Or.inl rfl | exact Or.inr rfl)))) (ss_cons (s_asg (d_ix (PD.pp (PN.pd (n_lst (a_cons d_str (a_cons d_str (a_cons d_str a_nil)))))) (PD.pp (d_call (ok__law_next Z) (hr.mono (by decide)) rfl Z.g24 Z.F24.kp Z.b24 (sa_feed (pv 0) (sa_d d_int sa_nil)))) (fun _ _ => rfl)) (g_name (pg_name (i := 4) sc40.nd rfl (by first | exact Or.inl rfl | exact Or.inr rfl)))) (ss_cons (s_asg (d_mul (PD.pp (d_ix (PD.pp (PN.pd (n_lst (a_cons d_int (a_cons d_int (a_cons (d_pow (PD.pp d_int) (PD.pp d_int)) a_nil)))))) (PD.pp (d_call (ok__law_next Z) (hr.mono (by decide)) rfl Z.g24 Z.F24.kp Z.b24 (sa_feed (pv 0) (sa_d d_int sa_nil)))) (fun _ _ => rfl))) (PD.pp (d_int1 (by rfl) Z.b_int (PD.pp (d_cmp (op_neP hr) od_cmp (PD.pp (d_var (pv 4))) (PD.pp d_str) (nomark _)))))) (g_name (pg_name (i := 5) sc40.nd rfl (by first | exact Or.inl rfl | exact Or.inr rfl)))) (ss_one (s_setD hr (pv 1) (d_var (pv 3)) (d_tup (a_cons (d_var (pv 3)) (a_cons (d_var (pv 4)) (a_cons (d_var (pv 5)) (a_cons (d_call (ok__law_any_m Z) (hr.mono (by decide)) rfl Z.g33 Z.F33.kp Z.b33 (sa_feed (pv 0) (sa_d (d_var (pv 3)) sa_nil))) a_nil)))))))))))) (ss_one (s_ret (d_tuple1 (by rfl) Z.b_tuple (PD.pp (PN.pd (n_lc (own := [("_law_seat", 3)]) rfl sc40.nd (i_any_p (PD.pp (PN.pd (n_sortDO rfl hr (by rfl) Z.b_sorted (pv 1))))) (blkOk_by (N := N40) (sc := (defScope s40)) (by first | decide +kernel | kernel_rfl)) (fun _ _ _ _ _ => (g_name (pg_name (i := 3) sc40.nd rfl (Or.inl rfl)))) (fun _ _ _ _ _ => ts_nil) (fun _ _ _ _ _ => (d_ixN hr (pv 1) (d_var (pv 3)) (fun _ _ => rfl))) (by decide))))))))), by decide +kernel⟩
theorem ok__law_any_paper (Z : Fx K mg base Ts fa fdd ca ta) : FnOk P w K mg base CX0 3 (fa 40) (fdd 40) p40 (spD ⟨K, Ts, (some ga), sa, (n0 :: ns), 2⟩ cost__law_any_paper sp__law_any_paper) := okD Z.F40 Z.c40 sc40 cF0 fun A outer s H E F0 hr => ⟨_, dv__law_any_paper Z hr, fun ss R h => by
  obtain ⟨rfl, h⟩ := spF0_ok h
  unfold rd__law_any_paper
  decreasing_tactic
  refine i_draw (by decide) (by decide) fun n n0 n1 => ?_
  decreasing_tactic
  refine ⟨by omega, by omega, by rw [rngD_len]; omega, ?_⟩
  refine for_steps (PapJ P w K) (i := 0) (fun d hd j j0 j1 ρ jj => ?_) ⟨none, none, none, none, [], rfl, .nil⟩ (fun ρ2 j2 => ?_) (fun d hd ρ P Q m p => m _ p)
  · rw [rngD_len] at j1
    obtain ⟨a2, a3, a4, a5, kvs, rfl, hk⟩ := jj
    intro N' hnx hct hrt
    decreasing_tactic
    intro s hs
    decreasing_tactic
    refine i_draw (by decide) (by decide) fun a a0 a1 => ?_
    refine i_pick a0 (by show a < 3; omega) fun w hw => ?_
    have hw : Md 0 4 1 w ∧ ∃ x, w = .str x := by
      simp only [List.mem_cons, List.mem_nil_iff, or_false] at hw
      rcases hw with rfl | rfl | rfl <;> exact ⟨md_of (by decide +kernel), _, rfl⟩
    obtain ⟨mw, x, rfl⟩ := hw
    decreasing_tactic
    refine ⟨⟨by decide, by decide, by decide⟩, ?_⟩
    decreasing_tactic
    refine i_draw (by decide) (by decide) fun b b0 b1 => ?_
    refine i_pick b0 (by show b < 3; omega) fun y hy => ?_
    have hy : ∃ n : Int, y = .int n ∧ n.natAbs ≤ 1000000 := by
      simp only [List.mem_cons, List.mem_nil_iff, or_false] at hy
      rcases hy with rfl | rfl | rfl <;> exact ⟨_, rfl, by decide⟩
    obtain ⟨i, rfl, hi⟩ := hy
    decreasing_tactic
    refine ⟨(mul01 i _).1, ?_⟩
    decreasing_tactic
    refine ⟨hs, fun m m0 m1 => ?_⟩
    decreasing_tactic
    refine ⟨kp_seat.ke s hs, hk.few (by omega), hnx _ ⟨_, _, _, _, _, rfl, hk.put hs (md_tup.mpr ⟨?_, ?_, ?_⟩)⟩⟩
    · intro d m
      simp only [List.mem_cons, List.mem_nil_iff, or_false] at m
      rcases m with rfl | rfl | rfl | rfl
      · exact (md_seat (b := 5) (k := 1) hs (by decide) (by decide)).ok
      · exact mw.ok
      · exact (md_small (b := 0) (k := 0) (Nat.le_trans (mul01 i _).2 hi)).ok
      · exact (md_small (b := 0) (k := 0) (by omega)).ok
    · have z1 := (md_seat (a := 0) (b := 5) (k := 1) hs (by decide) (by decide)).bulk
      have z2 := mw.bulk
      show s.bulk + 1 + ((PyData.str x).bulk + 1 + (0 + 1 + (0 + 1 + 0))) ≤ 20
      omega
    · intro d m
      simp only [List.mem_cons, List.mem_nil_iff, or_false] at m
      rcases m with rfl | rfl | rfl | rfl
      · exact (md_seat (a := 0) (b := 5) (k := 1) hs (by decide) (by decide)).depth
      · exact mw.depth
      · exact Nat.zero_le _
      · exact Nat.zero_le _
  · obtain ⟨a2, a3, a4, a5, kvs, rfl, hk⟩ := j2
    rw [rngD_len] at hk
    have hk : KvOk isSeat PapK 3 kvs := hk.le (by omega)
    decreasing_tactic
    refine kv_sort kp_seat hk (by omega) ?_
    have ls : (srt (kvs.map (·.1))).length ≤ 3 := by rw [srt_len, List.length_map]; exact hk.1
    refine lc_each (P := PapK) (by show 0 + _ < _; exact fewer (by omega)) (fun z hz => (nomatch hz)) (fun d hd Q q => ?_) fun zs lz hz => ?_
    · obtain ⟨c1, v, c2, c3⟩ := kv_each hk hd
      decreasing_tactic
      exact ⟨kp_seat.ke d c1, i_get c2 (q v c3)⟩
    have lz : zs.length ≤ 3 := by rw [lz]; show 0 + _ ≤ 3; omega
    decreasing_tactic
    exact h _ (md_tupS (b := 20) (n := 3) hz lz (by decide))⟩
end
end K62

namespace K62
open PySem PySem.Spec PyProof.Rows L2 GX DL
local macro_rules | `(tactic| decreasing_tactic) => `(tactic| (repeat (first | with_reducible refine i_seq ?_ | with_reducible refine i_ret ?_ | with_reducible refine i_retN ?_ | with_reducible refine i_nil ?_ | with_reducible refine i_if ?_ | with_reducible refine i_asg ?_ | with_reducible refine i_own ?_ | with_reducible refine i_for ?_ | with_reducible refine i_forL ?_ | with_reducible refine i_c ?_ | with_reducible refine i_o ?_ | with_reducible refine i_ch ?_ | with_reducible refine i_tr ?_ | with_reducible refine i_tru ?_ | with_reducible refine i_andT ?_ | with_reducible refine i_orT ?_ | with_reducible refine i_notT ?_ | with_reducible refine i_andD ?_ | with_reducible refine i_orD ?_ | with_reducible refine i_notD ?_ | with_reducible refine i_ifD ?_ | with_reducible refine i_isi ?_ | with_reducible refine i_b1 ?_ | with_reducible refine i_m1 ?_ | with_reducible refine i_neg ?_ | with_reducible refine i_call ?_ | with_reducible refine i_dSA ?_ | with_reducible refine i_fnSA ?_ | with_reducible refine i_nilSA ?_ | with_reducible refine i_tup ?_ | with_reducible refine i_lst ?_ | with_reducible refine i_asL ?_ | with_reducible refine i_nilA ?_ | with_reducible refine i_consA ?_ | with_reducible refine i_sl ?_ | with_reducible refine i_slN ?_ | with_reducible refine i_noO ?_ | with_reducible refine i_someO ?_ | with_reducible refine i_rev ?_ | with_reducible refine i_gN ?_ | with_reducible refine i_gC ?_ | with_reducible refine i_gNil ?_ | with_reducible refine i_lc ?_ | with_reducible refine i_lcL ?_ | with_reducible refine i_aa ?_ | with_reducible refine i_tupN ?_ | with_reducible refine i_seqI ?_ | with_reducible refine i_rg1 ?_ | with_reducible refine i_rg2 ?_ | with_reducible refine i_cat ?_ | with_reducible refine i_list1 ?_ | with_reducible refine i_sort ?_ | with_reducible refine i_yes ?_ | with_reducible refine i_onB ?_ | with_reducible refine i_onI ?_ | with_reducible refine i_onS ?_ | with_reducible refine i_onT ?_ | with_reducible refine i_onL ?_ | with_reducible refine i_wT ?_ | with_reducible refine i_wL ?_ | with_reducible refine i_wS ?_ | with_reducible refine i_itT ?_ | with_reducible refine i_itL ?_ | with_reducible refine i_lenT ?_ | with_reducible refine i_lenL ?_ | with_reducible refine i_ix0 ?_ | with_reducible refine i_ix1 ?_ | with_reducible refine i_ix2 ?_ | with_reducible refine i_ix3 ?_ | with_reducible refine i_tuple1L ?_ | with_reducible refine i_tuple1T ?_ | with_reducible refine i_addI ?_ | with_reducible refine i_subI ?_ | with_reducible refine i_ltI ?_ | with_reducible refine i_intB ?_ | with_reducible refine i_s1 ?_ | with_reducible refine i_s2 ?_ | with_reducible refine i_s3 ?_ | with_reducible refine i_sF0 ?_ | with_reducible refine i_sF1 ?_ | with_reducible refine i_tt ?_ | with_reducible refine i_ff ?_ | with_reducible refine i_ntt ?_ | with_reducible refine i_nff ?_ | with_reducible refine i_dict ?_ | with_reducible refine i_rep ?_ | with_reducible refine i_slL ?_ | with_reducible refine i_slT ?_ | with_reducible refine i_newD ?_ | with_reducible refine i_dictO ?_ | with_reducible refine i_call0 ?_ | with_reducible refine i_s00 ?_ | with_reducible refine i_v (by with_unfolding_all rfl) ?_ | with_reducible refine i_vP (by with_unfolding_all rfl) ?_ | with_reducible refine i_vO (by with_unfolding_all rfl) ?_ | with_reducible refine i_feedSA (by with_unfolding_all rfl) ?_ | with_reducible refine i_callL (by with_unfolding_all rfl) ?_ | with_reducible refine i_gT (by with_unfolding_all rfl) ?_ | with_reducible refine i_app (by with_unfolding_all rfl) ?_ | with_reducible refine i_ext (by with_unfolding_all rfl) ?_ | with_reducible refine i_frz (by with_unfolding_all rfl) ?_ | with_reducible refine ifNT (by with_unfolding_all rfl) ?_ | with_reducible refine ifNF (by with_unfolding_all rfl) ?_ | with_reducible refine ifT (by with_unfolding_all rfl) ?_ | with_reducible refine ifF (by with_unfolding_all rfl) ?_ | with_reducible refine i_setD (by with_unfolding_all rfl) ?_ | with_reducible refine i_ixN (by with_unfolding_all rfl) ?_ | with_reducible refine i_inN (by with_unfolding_all rfl) ?_ | with_reducible refine i_sortDO (by with_unfolding_all rfl) ?_ | with_reducible refine i_szL (by with_unfolding_all rfl) ?_ | with_reducible refine i_eq1 (by with_unfolding_all rfl) ?_ | with_reducible refine i_eq2 (by with_unfolding_all rfl) ?_ | with_reducible refine i_in1 (by with_unfolding_all rfl) ?_ | with_reducible refine i_in2 (by with_unfolding_all rfl) ?_ | with_reducible refine i_nin1 (by with_unfolding_all rfl) ?_ | with_reducible refine i_nin2 (by with_unfolding_all rfl) ?_ | with_reducible refine i_catL (by with_unfolding_all rfl) ?_ | with_reducible refine i_catT (by with_unfolding_all rfl) ?_ | with_reducible refine i_rgc (by with_unfolding_all rfl) ?_ | with_reducible refine i_rgl (by with_unfolding_all rfl) ?_)))
/-- the heads of asked rows, in a list -/
theorem heads_ok {f : PyData → Bool} (hord : OrdOk f) {ds : List PyData} (all : ∀ x ∈ ds, f x = true) : ∀ x ∈ ds.map headD, ∀ y ∈ ds.map headD, cOrd x y ∧ ∀ i, x ≠ .int i := fun x hx y hy => by
  obtain ⟨x, mx, rfl⟩ := List.mem_map.mp hx
  obtain ⟨y, my, rfl⟩ := List.mem_map.mp hy
  obtain ⟨h1, r1, h2, r2, rfl, rfl, c1, c2⟩ := hord x y (all x mx) (all y my)
  exact ⟨c1, c2⟩
theorem head_of {f : PyData → Bool} (hord : OrdOk f) {d : PyData} (h : f d = true) : ∃ x r, d = .tuple (x :: r) := by
  obtain ⟨h1, r1, _, _, e, _⟩ := hord d d h h
  exact ⟨h1, r1, e⟩
theorem row4 {d : PyData} (h : NA.rowD d 4 = true) : ∃ a b c e, d = .tuple [a, b, c, e] := by
  obtain ⟨ds, rfl, l⟩ := row_len h
  have l : ds.length = 4 := by omega
  match ds, l with
  | [a, b, c, e], _ => exact ⟨a, b, c, e, rfl⟩
theorem eqv_ne {x y : Str} (h : x ≠ y) : PyData.eqv (.str x) (.str y) = false := by
  show (x == y) = false
  exact beq_eq_false_iff_ne.mpr h
theorem paper_ne {d : PyData} (h : NA.rowD d 4 = false) : p_is_paper_row d = false := by
  unfold p_is_paper_row
  split
  · cases h
  · rfl
/-! ### _law_is_paper -/
@[reducible] def sp__law_is_paper : SpecD := askC Cd (rowsD p_is_paper_row)
def cost__law_is_paper : Nat := 0
def rd__law_is_paper : DS := (seqS (ifS (notT (tr (isiD NA.isT (vD 0)))) (retS (cD (.bool false))) nilS) (seqS (forS (seqI (vD 0)) (gN 1) (seqS (ifS (orT (notT (tr (isiD NA.isT (vD 1)))) (orT (tr (oD neO (b1D lenO (vD 1)) (cD (.int 4)))) (notT (tr (callD sp__law_is_seat (dSA (oD ixO (vD 1) (cD (.int 0))) nilSA)))))) (retS (cD (.bool false))) nilS) (seqS (ifS (orT (notT (tr (isiD NA.isS (oD ixO (vD 1) (cD (.int 1)))))) (tr (oD ninO (oD ixO (vD 1) (cD (.int 1))) (tupD (consA (cD (.str "has")) (consA (cD (.str "left")) (consA (cD (.str "cut")) nilA))))))) (retS (cD (.bool false))) nilS) (seqS (ifS (notT (tr (callD sp__law_is_whole (dSA (oD ixO (vD 1) (cD (.int 2))) (dSA (cD (.int 0)) (dSA (oD mulO (oD powO (cD (.int 10)) (cD (.int 40))) (b1D int1O (oD neO (oD ixO (vD 1) (cD (.int 1))) (cD (.str "cut"))))) nilSA)))))) (retS (cD (.bool false))) nilS) (ifS (notT (tr (callD sp__law_is_m (dSA (oD ixO (vD 1) (cD (.int 0))) (dSA (oD ixO (vD 1) (cD (.int 3))) nilSA))))) (retS (cD (.bool false))) nilS))))) (retS (callD sp__law_are_rising (dSA (asL (lcN (seqI (vD 0)) [1] (gN 1) yesT (oD ixO (vD 1) (cD (.int 0))))) nilSA)))))
section
variable {P : Program} {w : World} {K : PySem.W.Frag} {mg : Str → Option Value} {base : Heap} {Ts : List Addr} {fa : Nat → Addr} {fdd : Nat → FuncData} {ca ta : Nat → Addr} {g : Option Addr} {sa ga : Addr} {n0 : Int} {ns : List Int}
theorem dv__law_is_paper (Z : Fx K mg base Ts fa fdd ca ta) {A : Around} {outer : List Env} {s : Shared} {H : Hp} {E : XK} {F0 : List Addr} (hr : Room 2 (A.deeper (envOfC "_law_is_paper" (defScope s37) s.heap.objs.size (fa 37) (.ref (ca 37))))) : ∃ κ, PDSs (cxOf CX0 P w K mg base N37 "_law_is_paper" (defScope s37) (fa 37) (.ref (ca 37)) A outer s H E).nox (cc0 ⟨K, Ts, g, sa, (n0 :: ns), 2⟩ H F0) κ (defBody s37) rd__law_is_paper ∧ κ ≤ cost__law_is_paper :=
  ⟨_, (ss_cons (s_if (t_not (t_val (d_isi (T := "tuple") (fun _ _ _ h => NA.kitTuple h) (by rfl) Z.b_isinstance (PD.pp (d_var (pv 0))) (pe_bltn (by rfl) Z.b_tuple (by decide +kernel) (v := .ty "tuple") rfl)))) (ss_one (s_ret d_bl)) ss_nil) (ss_cons (s_for PassesOwn.never rfl (i_any_d (d_var (pv 0))) (fun _ => (g_name (pg_name (i := 1) sc37.nd rfl (by first | exact Or.inl rfl | exact Or.inr rfl)))) (fun _ => (ss_cons (s_if (PW.pt (w_or (t_not (t_val (d_isi (T := "tuple") (fun _ _ _ h => NA.kitTuple h) (by rfl) Z.b_isinstance (PD.pp (d_var (pv 1))) (pe_bltn (by rfl) Z.b_tuple (by decide +kernel) (v := .ty "tuple") rfl)))) (w_or (t_cmp (op_neP hr) od_cmp (PD.pp (d_len (by rfl) Z.b_len (PD.pp (d_var (pv 1))))) (PD.pp d_int) (nomark _)) (w_or1 (t_not (t_val (d_call (ok__law_is_seat Z) (hr.mono (by decide)) rfl Z.g26 Z.F26.kp Z.b26 (sa_d (d_ix (PD.pp (d_var (pv 1))) (PD.pp d_int) (fun _ _ => rfl)) sa_nil)))))))) (ss_one (s_ret d_bl)) ss_nil) (ss_cons (s_if (PW.pt (w_or (t_not (t_val (d_isi (T := "str") (fun _ _ _ h => NA.kitStr h) (by rfl) Z.b_isinstance (PD.pp (d_ix (PD.pp (d_var (pv 1))) (PD.pp d_int) (fun _ _ => rfl))) (pe_bltn (by rfl) Z.b_str (by decide +kernel) (v := .ty "str") rfl)))) (w_or1 (t_cmp (ol_nin hr) oo_nin (PD.pp (d_ix (PD.pp (d_var (pv 1))) (PD.pp d_int) (fun _ _ => rfl))) (PD.pp (d_tup (a_cons d_str (a_cons d_str (a_cons d_str a_nil))))) (by first | rfl | with_unfolding_all rfl))))) (ss_one (s_ret d_bl)) ss_nil) (ss_cons (s_if (t_not (t_val (d_call (ok__law_is_whole Z) (hr.mono (by decide)) rfl Z.g25 Z.F25.kp Z.b25 (sa_d (d_ix (PD.pp (d_var (pv 1))) (PD.pp d_int) (fun _ _ => rfl)) (sa_d d_int (sa_d (d_mul (PD.pp (d_pow (PD.pp d_int) (PD.pp d_int))) (PD.pp (d_int1 (by rfl) Z.b_int (PD.pp (d_cmp (op_neP hr) od_cmp (PD.pp (d_ix (PD.pp (d_var (pv 1))) (PD.pp d_int) (fun _ _ => rfl))) (PD.pp d_str) (nomark _)))))) sa_nil)))))) (ss_one (s_ret d_bl)) ss_nil) (ss_one (s_if (t_not (t_val (d_call (ok__law_is_m Z) (hr.mono (by decide)) rfl Z.g30 Z.F30.kp Z.b30 (sa_d (d_ix (PD.pp (d_var (pv 1))) (PD.pp d_int) (fun _ _ => rfl)) (sa_d (d_ix (PD.pp (d_var (pv 1))) (PD.pp d_int) (fun _ _ => rfl)) sa_nil))))) (ss_one (s_ret d_bl)) ss_nil))))))) (ss_one (s_ret (d_call (ok__law_are_rising Z) (hr.mono (by decide)) rfl Z.g31 Z.F31.kp Z.b31 (sa_d (PN.pd (n_lc (own := [("_law_row", 1)]) rfl sc37.nd (i_any_p (PD.pp (d_var (pv 0)))) (blkOk_by (N := N37) (sc := (defScope s37)) (by first | decide +kernel | kernel_rfl)) (fun _ _ _ _ _ => (g_name (pg_name (i := 1) sc37.nd rfl (Or.inl rfl)))) (fun _ _ _ _ _ => ts_nil) (fun _ _ _ _ _ => (d_ix (PD.pp (d_var (pv 1))) (PD.pp d_int) (fun _ _ => rfl))) (by decide))) sa_nil)))))), by decide +kernel⟩
theorem ok__law_is_paper (Z : Fx K mg base Ts fa fdd ca ta) : FnOk P w K mg base CX0 3 (fa 37) (fdd 37) p37 (spD ⟨K, Ts, g, sa, (n0 :: ns), 2⟩ cost__law_is_paper sp__law_is_paper) := okD Z.F37 Z.c37 sc37 c1 fun A outer s H E F0 hr => ⟨_, dv__law_is_paper Z hr, fun ss R h => by
  obtain ⟨d, rfl, hc, h⟩ := sp1_ok h
  cases d with
  | tuple ds =>
    have h' : R (.bool (ds.all p_is_paper_row && riseB (ds.map headD))) := h
    unfold rd__law_is_paper
    decreasing_tactic
    refine for_ask (p := p_is_paper_row) (fun ρ => ∃ a : Option SV, ρ = [some (.d (.tuple ds)), a]) (fun ρ d ⟨a, e⟩ => ⟨some (.d d), by rw [e]; rfl⟩) ⟨_, rfl⟩ (fun d m ρ N' ⟨a, e⟩ h1 h2 => ?_) (fun e ρ ⟨a, eρ⟩ => ?_) (fun e => by rw [e] at h'; exact h')
    · subst e
      have hd := hc.mem m
      show seqS _ _ N' [some (.d (.tuple ds)), some (.d d)]
      cases d with
      | tuple es =>
        decreasing_tactic
        rw [← rowIs]
        refine ifNE (b := NA.rowD (.tuple es) 4) (fun e => ?_) (fun e => ?_)
        · decreasing_tactic
          exact h2 (paper_ne e)
        · obtain ⟨s, w, n, t, e'⟩ := row4 e
          cases e'
          have pe : p_is_paper_row (.tuple [s, w, n, t]) = (NA.seatD s && (NA.fromD n 0 && (NA.btwD t 0 (mTop s) && wordP w n))) := rfl
          rw [pe] at h1 h2
          decreasing_tactic
          refine ⟨hd.mem (by simp), ?_⟩
          decreasing_tactic
          refine ifNE (b := NA.seatD s) (fun e => ?_) (fun e => ?_)
          · decreasing_tactic
            exact h2 (by rw [e]; rfl)
          rw [e, Bool.true_and] at h1 h2
          obtain ⟨y, u, rfl⟩ := seat_tup e
          decreasing_tactic
          cases w with
          | str x =>
            decreasing_tactic
            have cn : Cd n := hd.mem (by simp)
            by_cases c1 : x = "cut"
            · subst c1
              decreasing_tactic
              refine pow40 ?_
              decreasing_tactic
              refine ⟨(mul01 _ _).1, ?_⟩
              decreasing_tactic
              have c2 : wordP (.str "cut") n = PyData.eqv n (.int 0) := by
                show (false || (true && PyData.eqv n (.int 0))) = _
                rw [Bool.false_or, Bool.true_and]
              rw [c2] at h1 h2
              have eb : (NA.btwD n 0 0) = (NA.fromD n 0 && PyData.eqv n (.int 0)) := by
                cases n with
                | int i =>
                  show (decide (0 ≤ i) && decide (i ≤ 0)) = (decide (0 ≤ i) && (i == 0))
                  by_cases i0 : i = 0
                  · subst i0; rfl
                  · by_cases l : 0 ≤ i
                    · rw [decide_eq_false (show ¬ i ≤ 0 by omega), beq_false_of_ne i0]
                    · rw [decide_eq_false l]; rfl
                | _ => rfl
              show if (!NA.btwD n 0 0) = true then _ else _
              refine ifNE (b := NA.btwD n 0 0) (fun e => ?_) (fun e => ?_)
              · decreasing_tactic
                refine h2 ?_
                rw [eb] at e
                cases z : NA.fromD n 0 with
                | false => rfl
                | true =>
                  rw [z, Bool.true_and] at e
                  rw [e, Bool.and_false, Bool.and_false]
              · rw [eb, Bool.and_eq_true] at e
                rw [e.1, e.2, Bool.true_and, Bool.and_true] at h1 h2
                decreasing_tactic
                refine ifNE (b := NA.btwD t 0 (mTop (.tuple (y :: u)))) (fun e => ?_) (fun e => ?_)
                · decreasing_tactic
                  exact h2 e
                · exact h1 e _ ⟨_, rfl⟩
            · have c1' : PyData.eqv (.str x) (.str "cut") = false := eqv_ne c1
              have ww : wordP (.str x) n = inD (.str x) (.tuple [.str "has", .str "left"]) := by
                unfold wordP
                rw [c1', Bool.false_and, Bool.or_false]
              rw [ww] at h1 h2
              have i3 : inD (.str x) (.tuple [.str "has", .str "left", .str "cut"]) = inD (.str x) (.tuple [.str "has", .str "left"]) := by
                show (PyData.eqv (.str "has") (.str x) || (PyData.eqv (.str "left") (.str x) || (PyData.eqv (.str "cut") (.str x) || false))) = (PyData.eqv (.str "has") (.str x) || (PyData.eqv (.str "left") (.str x) || false))
                rw [eqv_ne (x := "cut") (y := x) fun z => c1 z.symm]
                rfl
              rw [i3]
              refine ifNE (b := inD (.str x) (.tuple [.str "has", .str "left"])) (fun e => ?_) (fun e => ?_)
              · decreasing_tactic
                exact h2 (by rw [e, Bool.and_false, Bool.and_false])
              rw [e, Bool.and_true] at h1 h2
              decreasing_tactic
              refine pow40 ?_
              decreasing_tactic
              refine ⟨(mul01 _ _).1, ?_⟩
              decreasing_tactic
              have fb : NA.btwD n 0 (10 ^ 40) = NA.fromD n 0 := from_btw cn
              have ef : ((10 : Int) ^ 40 * (if (!PyData.eqv (.str x) (.str "cut")) = true then 1 else 0)) = 10 ^ 40 := by rw [c1']; rfl
              show if (!NA.btwD n 0 ((10 : Int) ^ 40 * (if (!PyData.eqv (.str x) (.str "cut")) = true then 1 else 0))) = true then _ else _
              rw [ef, fb]
              refine ifNE (b := NA.fromD n 0) (fun e => ?_) (fun e => ?_)
              · decreasing_tactic
                exact h2 (by rw [e]; rfl)
              rw [e, Bool.true_and] at h1 h2
              decreasing_tactic
              refine ifNE (b := NA.btwD t 0 (mTop (.tuple (y :: u)))) (fun e => ?_) (fun e => ?_)
              · decreasing_tactic
                exact h2 e
              · exact h1 e _ ⟨_, rfl⟩
          | _ =>
            decreasing_tactic
            refine h2 ?_
            show (NA.fromD n 0 && (NA.btwD t 0 (mTop (.tuple (y :: u))) && false)) = false
            rw [Bool.and_false, Bool.and_false]
      | _ =>
        decreasing_tactic
        exact h2 rfl
    · subst eρ
      have all := List.all_eq_true.mp e
      rw [e, Bool.true_and] at h'
      decreasing_tactic
      refine lc_mapD (f := headD) ds [] (by show 0 + _ < _; rw [Nat.zero_add]; exact fewer hc.len) (fun d m Q q => ?_) ?_
      · obtain ⟨x, r, rfl⟩ := head_of ord_is_paper_row (all d m)
        decreasing_tactic
        exact q
      · decreasing_tactic
        exact ⟨by rw [List.nil_append, List.length_map]; exact hc.len, heads_ok ord_is_paper_row all, h'⟩
  | _ => exact h⟩
end
end K62

namespace K62
open PySem PySem.Spec PyProof.Rows L2 GX DL
local macro_rules | `(tactic| decreasing_tactic) => `(tactic| (repeat (first | with_reducible refine i_seq ?_ | with_reducible refine i_ret ?_ | with_reducible refine i_retN ?_ | with_reducible refine i_nil ?_ | with_reducible refine i_if ?_ | with_reducible refine i_asg ?_ | with_reducible refine i_own ?_ | with_reducible refine i_for ?_ | with_reducible refine i_forL ?_ | with_reducible refine i_c ?_ | with_reducible refine i_o ?_ | with_reducible refine i_ch ?_ | with_reducible refine i_tr ?_ | with_reducible refine i_tru ?_ | with_reducible refine i_andT ?_ | with_reducible refine i_orT ?_ | with_reducible refine i_notT ?_ | with_reducible refine i_andD ?_ | with_reducible refine i_orD ?_ | with_reducible refine i_notD ?_ | with_reducible refine i_ifD ?_ | with_reducible refine i_isi ?_ | with_reducible refine i_b1 ?_ | with_reducible refine i_m1 ?_ | with_reducible refine i_neg ?_ | with_reducible refine i_call ?_ | with_reducible refine i_dSA ?_ | with_reducible refine i_fnSA ?_ | with_reducible refine i_nilSA ?_ | with_reducible refine i_tup ?_ | with_reducible refine i_lst ?_ | with_reducible refine i_asL ?_ | with_reducible refine i_nilA ?_ | with_reducible refine i_consA ?_ | with_reducible refine i_sl ?_ | with_reducible refine i_slN ?_ | with_reducible refine i_noO ?_ | with_reducible refine i_someO ?_ | with_reducible refine i_rev ?_ | with_reducible refine i_gN ?_ | with_reducible refine i_gC ?_ | with_reducible refine i_gNil ?_ | with_reducible refine i_lc ?_ | with_reducible refine i_lcL ?_ | with_reducible refine i_aa ?_ | with_reducible refine i_tupN ?_ | with_reducible refine i_seqI ?_ | with_reducible refine i_rg1 ?_ | with_reducible refine i_rg2 ?_ | with_reducible refine i_cat ?_ | with_reducible refine i_list1 ?_ | with_reducible refine i_sort ?_ | with_reducible refine i_yes ?_ | with_reducible refine i_onB ?_ | with_reducible refine i_onI ?_ | with_reducible refine i_onS ?_ | with_reducible refine i_onT ?_ | with_reducible refine i_onL ?_ | with_reducible refine i_wT ?_ | with_reducible refine i_wL ?_ | with_reducible refine i_wS ?_ | with_reducible refine i_itT ?_ | with_reducible refine i_itL ?_ | with_reducible refine i_lenT ?_ | with_reducible refine i_lenL ?_ | with_reducible refine i_ix0 ?_ | with_reducible refine i_ix1 ?_ | with_reducible refine i_ix2 ?_ | with_reducible refine i_ix3 ?_ | with_reducible refine i_tuple1L ?_ | with_reducible refine i_tuple1T ?_ | with_reducible refine i_addI ?_ | with_reducible refine i_subI ?_ | with_reducible refine i_ltI ?_ | with_reducible refine i_intB ?_ | with_reducible refine i_s1 ?_ | with_reducible refine i_s2 ?_ | with_reducible refine i_s3 ?_ | with_reducible refine i_sF0 ?_ | with_reducible refine i_sF1 ?_ | with_reducible refine i_tt ?_ | with_reducible refine i_ff ?_ | with_reducible refine i_ntt ?_ | with_reducible refine i_nff ?_ | with_reducible refine i_dict ?_ | with_reducible refine i_rep ?_ | with_reducible refine i_slL ?_ | with_reducible refine i_slT ?_ | with_reducible refine i_newD ?_ | with_reducible refine i_dictO ?_ | with_reducible refine i_call0 ?_ | with_reducible refine i_s00 ?_ | with_reducible refine i_v (by with_unfolding_all rfl) ?_ | with_reducible refine i_vP (by with_unfolding_all rfl) ?_ | with_reducible refine i_vO (by with_unfolding_all rfl) ?_ | with_reducible refine i_feedSA (by with_unfolding_all rfl) ?_ | with_reducible refine i_callL (by with_unfolding_all rfl) ?_ | with_reducible refine i_gT (by with_unfolding_all rfl) ?_ | with_reducible refine i_app (by with_unfolding_all rfl) ?_ | with_reducible refine i_ext (by with_unfolding_all rfl) ?_ | with_reducible refine i_frz (by with_unfolding_all rfl) ?_ | with_reducible refine ifNT (by with_unfolding_all rfl) ?_ | with_reducible refine ifNF (by with_unfolding_all rfl) ?_ | with_reducible refine ifT (by with_unfolding_all rfl) ?_ | with_reducible refine ifF (by with_unfolding_all rfl) ?_ | with_reducible refine i_setD (by with_unfolding_all rfl) ?_ | with_reducible refine i_ixN (by with_unfolding_all rfl) ?_ | with_reducible refine i_inN (by with_unfolding_all rfl) ?_ | with_reducible refine i_sortDO (by with_unfolding_all rfl) ?_ | with_reducible refine i_szL (by with_unfolding_all rfl) ?_ | with_reducible refine i_eq1 (by with_unfolding_all rfl) ?_ | with_reducible refine i_eq2 (by with_unfolding_all rfl) ?_ | with_reducible refine i_in1 (by with_unfolding_all rfl) ?_ | with_reducible refine i_in2 (by with_unfolding_all rfl) ?_ | with_reducible refine i_nin1 (by with_unfolding_all rfl) ?_ | with_reducible refine i_nin2 (by with_unfolding_all rfl) ?_ | with_reducible refine i_catL (by with_unfolding_all rfl) ?_ | with_reducible refine i_catT (by with_unfolding_all rfl) ?_ | with_reducible refine i_rgc (by with_unfolding_all rfl) ?_ | with_reducible refine i_rgl (by with_unfolding_all rfl) ?_)))
/-! ### _law_is_rest -/
def wordsL : List Str := ["put", "out", "tell", "take", "go", "bring", "cut", "leave", "fall", "drop"]
@[reducible] def sp__law_is_rest : SpecD := sp2 fun w d R => ∃ x r, w = .str x ∧ x ∈ wordsL ∧ d = .tuple r ∧ Cd d ∧ R (.bool (restP w r))
theorem ne1 {y z : PyData} {r : List PyData} : PyData.eqv (.int ((y :: z :: r).length : Int)) (.int 1) = false := beq_eq_false_iff_ne.mpr (by simp only [List.length_cons]; omega)
theorem ne0 {y : PyData} {r : List PyData} : PyData.eqv (.int ((y :: r).length : Int)) (.int 0) = false := beq_eq_false_iff_ne.mpr (by simp only [List.length_cons]; omega)
theorem ne2 {y z u : PyData} {r : List PyData} : PyData.eqv (.int ((y :: z :: u :: r).length : Int)) (.int 2) = false := beq_eq_false_iff_ne.mpr (by simp only [List.length_cons]; omega)
def cost__law_is_rest : Nat := 0
def rd__law_is_rest : DS := (seqS (ifS (tr (oD neO (b1D lenO (vD 1)) (getC [("bring", 0), ("fall", 0), ("go", 2)] 1 (vD 0)))) (retS (cD (.bool false))) nilS) (seqS (ifS (tr (oD inO (vD 0) (tupD (consA (cD (.str "bring")) (consA (cD (.str "fall")) nilA))))) (retS (cD (.bool true))) nilS) (seqS (ifS (tr (oD inO (vD 0) (tupD (consA (cD (.str "cut")) (consA (cD (.str "leave")) nilA))))) (retS (callD sp__law_is_seat (dSA (oD ixO (vD 1) (cD (.int 0))) nilSA))) nilS) (seqS (ifS (tr (oD eqO (vD 0) (cD (.str "put")))) (retS (callD sp__law_is_thing (dSA (oD ixO (vD 1) (cD (.int 0))) nilSA))) nilS) (seqS (ifS (tr (oD eqO (vD 0) (cD (.str "tell")))) (retS (andD (isiD NA.isT (oD ixO (vD 1) (cD (.int 0)))) (oD eqO (asL (lcN (seqI (oD ixO (vD 1) (cD (.int 0)))) [3] (gN 3) (notT (tr (callD sp__law_is_dot (dSA (vD 3) nilSA)))) (vD 3))) (asL (lstN nilA))))) nilS) (seqS (ifS (tr (oD eqO (vD 0) (cD (.str "take")))) (seqS (asgS (andD (isiD NA.isT (oD ixO (vD 1) (cD (.int 0)))) (oD eqO (b1D lenO (oD ixO (vD 1) (cD (.int 0)))) (cD (.int 2)))) (gN 2)) (retS (andD (vD 2) (andD (callD sp__law_is_seat (dSA (oD ixO (oD ixO (vD 1) (cD (.int 0))) (cD (.int 0))) nilSA)) (callD sp__law_is_whole (dSA (oD ixO (oD ixO (vD 1) (cD (.int 0))) (cD (.int 1))) (dSA (cD (.int 0)) (dSA (oD powO (cD (.int 10)) (cD (.int 40))) nilSA)))))))) nilS) (seqS (ifS (notT (tr (callD sp__law_is_dot (dSA (oD ixO (vD 1) (cD (.int 0))) nilSA)))) (retS (cD (.bool false))) nilS) (retS (orD (oD neO (vD 0) (cD (.str "go"))) (callD sp__law_is_paper (dSA (oD ixO (vD 1) (cD (.int 1))) nilSA)))))))))))
section
variable {P : Program} {w : World} {K : PySem.W.Frag} {mg : Str → Option Value} {base : Heap} {Ts : List Addr} {fa : Nat → Addr} {fdd : Nat → FuncData} {ca ta : Nat → Addr} {g : Option Addr} {sa ga : Addr} {n0 : Int} {ns : List Int}
theorem dv__law_is_rest (Z : Fx K mg base Ts fa fdd ca ta) {A : Around} {outer : List Env} {s : Shared} {H : Hp} {E : XK} {F0 : List Addr} (hr : Room 4 (A.deeper (envOfC "_law_is_rest" (defScope s38) s.heap.objs.size (fa 38) (.ref (ca 38))))) : ∃ κ, PDSs (cxOf CX0 P w K mg base N38 "_law_is_rest" (defScope s38) (fa 38) (.ref (ca 38)) A outer s H E).nox (cc0 ⟨K, Ts, g, sa, (n0 :: ns), 2⟩ H F0) κ (defBody s38) rd__law_is_rest ∧ κ ≤ cost__law_is_rest :=
  ⟨_, (ss_cons (s_if (t_cmp (op_neP hr) od_cmp (PD.pp (d_len (by rfl) Z.b_len (PD.pp (d_var (pv 1))))) (PD.pp (d_getC (kvs := [("bring", 0), ("fall", 0), ("go", 2)]) hr (pe_disp (pps_cons pe_str pe_int (pps_cons pe_str pe_int (pps_cons pe_str pe_int pps_nil))) (by rfl) (by rfl) (fun z => by cases z) (by decide)) (by decide) (d_var (pv 0)) ⟨rfl, rfl, rfl, rfl⟩)) (nomark _)) (ss_one (s_ret d_bl)) ss_nil) (ss_cons (s_if (t_cmp (ol_in hr) oo_in (PD.pp (d_var (pv 0))) (PD.pp (d_tup (a_cons d_str (a_cons d_str a_nil)))) (by first | rfl | with_unfolding_all rfl)) (ss_one (s_ret d_bl)) ss_nil) (ss_cons (s_if (t_cmp (ol_in hr) oo_in (PD.pp (d_var (pv 0))) (PD.pp (d_tup (a_cons d_str (a_cons d_str a_nil)))) (by first | rfl | with_unfolding_all rfl)) (ss_one (s_ret (d_call (ok__law_is_seat Z) (hr.mono (by decide)) rfl Z.g26 Z.F26.kp Z.b26 (sa_d (d_ix (PD.pp (d_var (pv 1))) (PD.pp d_int) (fun _ _ => rfl)) sa_nil)))) ss_nil) (ss_cons (s_if (t_cmp (op_eqP hr) od_cmp (PD.pp (d_var (pv 0))) (PD.pp d_str) (nomark _)) (ss_one (s_ret (d_call (ok__law_is_thing Z) (hr.mono (by decide)) rfl Z.g29 Z.F29.kp Z.b29 (sa_d (d_ix (PD.pp (d_var (pv 1))) (PD.pp d_int) (fun _ _ => rfl)) sa_nil)))) ss_nil) (ss_cons (s_if (t_cmp (op_eqP hr) od_cmp (PD.pp (d_var (pv 0))) (PD.pp d_str) (nomark _)) (ss_one (s_ret (d_and (d_isi (T := "tuple") (fun _ _ _ h => NA.kitTuple h) (by rfl) Z.b_isinstance (PD.pp (d_ix (PD.pp (d_var (pv 1))) (PD.pp d_int) (fun _ _ => rfl))) (pe_bltn (by rfl) Z.b_tuple (by decide +kernel) (v := .ty "tuple") rfl)) (d_one (d_cmp (op_eqP hr) od_cmp (PD.pp (PN.pd (n_lc (own := [("_law_dot", 3)]) rfl sc38.nd (i_any_p (PD.pp (d_ix (PD.pp (d_var (pv 1))) (PD.pp d_int) (fun _ _ => rfl)))) (blkOk_by (N := N38) (sc := (defScope s38)) (by first | decide +kernel | kernel_rfl)) (fun _ _ _ _ _ => (g_name (pg_name (i := 3) sc38.nd rfl (Or.inl rfl)))) (fun _ _ _ _ _ => (ts_one (t_not (t_val (d_call (ok__law_is_dot Z) (hr.mono (by decide)) rfl Z.g27 Z.F27.kp Z.b27 (sa_d (d_var (pv 3)) sa_nil)))))) (fun _ _ _ _ _ => (d_var (pv 3))) (by decide)))) (PD.pp (PN.pd (n_lst a_nil))) (nomark _)))))) ss_nil) (ss_cons (s_if (t_cmp (op_eqP hr) od_cmp (PD.pp (d_var (pv 0))) (PD.pp d_str) (nomark _)) (ss_cons (s_asg (d_and (d_isi (T := "tuple") (fun _ _ _ h => NA.kitTuple h) (by rfl) Z.b_isinstance (PD.pp (d_ix (PD.pp (d_var (pv 1))) (PD.pp d_int) (fun _ _ => rfl))) (pe_bltn (by rfl) Z.b_tuple (by decide +kernel) (v := .ty "tuple") rfl)) (d_one (d_cmp (op_eqP hr) od_cmp (PD.pp (d_len (by rfl) Z.b_len (PD.pp (d_ix (PD.pp (d_var (pv 1))) (PD.pp d_int) (fun _ _ => rfl))))) (PD.pp d_int) (nomark _)))) (g_name (pg_name (i := 2) sc38.nd rfl (by first | exact Or.inl rfl | exact Or.inr rfl)))) (ss_one (s_ret (d_and (d_var (pv 2)) (d_and (d_call (ok__law_is_seat Z) (hr.mono (by decide)) rfl Z.g26 Z.F26.kp Z.b26 (sa_d (d_ix (PD.pp (d_ix (PD.pp (d_var (pv 1))) (PD.pp d_int) (fun _ _ => rfl))) (PD.pp d_int) (fun _ _ => rfl)) sa_nil)) (d_one (d_call (ok__law_is_whole Z) (hr.mono (by decide)) rfl Z.g25 Z.F25.kp Z.b25 (sa_d (d_ix (PD.pp (d_ix (PD.pp (d_var (pv 1))) (PD.pp d_int) (fun _ _ => rfl))) (PD.pp d_int) (fun _ _ => rfl)) (sa_d d_int (sa_d (d_pow (PD.pp d_int) (PD.pp d_int)) sa_nil)))))))))) ss_nil) (ss_cons (s_if (t_not (t_val (d_call (ok__law_is_dot Z) (hr.mono (by decide)) rfl Z.g27 Z.F27.kp Z.b27 (sa_d (d_ix (PD.pp (d_var (pv 1))) (PD.pp d_int) (fun _ _ => rfl)) sa_nil)))) (ss_one (s_ret d_bl)) ss_nil) (ss_one (s_ret (d_or (d_cmp (op_neP hr) od_cmp (PD.pp (d_var (pv 0))) (PD.pp d_str) (nomark _)) (d_one (d_call (ok__law_is_paper Z) (hr.mono (by decide)) rfl Z.g37 Z.F37.kp Z.b37 (sa_d (d_ix (PD.pp (d_var (pv 1))) (PD.pp d_int) (fun _ _ => rfl)) sa_nil))))))))))))), by decide +kernel⟩
theorem ok__law_is_rest (Z : Fx K mg base Ts fa fdd ca ta) : FnOk P w K mg base CX0 5 (fa 38) (fdd 38) p38 (spD ⟨K, Ts, g, sa, (n0 :: ns), 2⟩ cost__law_is_rest sp__law_is_rest) := okD Z.F38 Z.c38 sc38 c2 fun A outer s H E F0 hr => ⟨_, dv__law_is_rest Z hr, fun ss R h => by
  obtain ⟨w, d, rfl, x, r, rfl, hx, rfl, hc, h⟩ := sp2_ok h
  have hx : x = "put" ∨ x = "out" ∨ x = "tell" ∨ x = "take" ∨ x = "go" ∨ x = "bring" ∨ x = "cut" ∨ x = "leave" ∨ x = "fall" ∨ x = "drop" := by
    simpa only [wordsL, List.mem_cons, List.mem_nil_iff, or_false] using hx
  unfold rd__law_is_rest
  decreasing_tactic
  refine i_getC ?_
  decreasing_tactic
  rcases hx with rfl | rfl | rfl | rfl | rfl | rfl | rfl | rfl | rfl | rfl
  · refine ⟨_, rfl, 1, by decide +kernel, ?_⟩
    match r with
    | [] => decreasing_tactic; exact h
    | y :: z :: r => decreasing_tactic; exact h
    | [y] =>
      decreasing_tactic
      exact ⟨hc.mem (by simp), h⟩
  · refine ⟨_, rfl, 1, by decide +kernel, ?_⟩
    match r with
    | [] => decreasing_tactic; exact h
    | y :: z :: r => decreasing_tactic; exact h
    | [y] =>
      decreasing_tactic
      refine ⟨hc.mem (by simp), ?_⟩
      decreasing_tactic
      have h : R (.bool (NA.dotD y)) := h
      refine ifNE (b := NA.dotD y) (fun e => by rw [e] at h; decreasing_tactic; exact h) (fun e => by rw [e] at h; decreasing_tactic; exact h)
  · refine ⟨_, rfl, 1, by decide +kernel, ?_⟩
    match r with
    | [] => decreasing_tactic; exact h
    | y :: z :: r => decreasing_tactic; exact h
    | [y] =>
      decreasing_tactic
      cases y with
      | tuple ts =>
        decreasing_tactic
        have ct : Cd (.tuple ts) := hc.mem (by simp)
        refine left_nil (f := NA.dotD) (fewer ct.len) (fun d m Q q => ?_) (fun d m Q q => q) ?_
        · decreasing_tactic
          exact ⟨ct.mem m, q⟩
        · exact h
      | _ => decreasing_tactic; exact h
  · refine ⟨_, rfl, 1, by decide +kernel, ?_⟩
    match r with
    | [] => decreasing_tactic; exact h
    | y :: z :: r => decreasing_tactic; exact h
    | [y] =>
      decreasing_tactic
      have cy : Cd y := hc.mem (by simp)
      have h : R (.bool (namesP y)) := h
      cases y with
      | tuple ts =>
        decreasing_tactic
        rw [← rowIs]
        unfold namesP at h
        cases e : NA.rowD (.tuple ts) 2 with
        | false =>
          rw [e] at h
          decreasing_tactic
          exact h
        | true =>
          rw [e, Bool.true_and] at h
          obtain ⟨a, b, e'⟩ := row2 e
          cases e'
          decreasing_tactic
          refine ⟨cy.mem (by simp), ?_⟩
          decreasing_tactic
          refine and_step h (fun e h => ?_) (fun h => h)
          decreasing_tactic
          refine pow40 ?_
          decreasing_tactic
          have fb : NA.btwD b 0 (10 ^ 40) = NA.fromD b 0 := from_btw (cy.mem (by simp))
          show R (.bool (NA.btwD b 0 (10 ^ 40)))
          rw [fb]
          exact h
      | _ => decreasing_tactic; exact h
  · refine ⟨_, rfl, 2, by decide +kernel, ?_⟩
    match r with
    | [] => decreasing_tactic; exact h
    | [y] => decreasing_tactic; exact h
    | y :: z :: u :: r => decreasing_tactic; exact h
    | [y, p] =>
      decreasing_tactic
      refine ⟨hc.mem (by simp), ?_⟩
      decreasing_tactic
      have h : R (.bool (NA.dotD y && rowsD p_is_paper_row p)) := h
      refine nand_step h (fun e h => ?_) (fun h => by decreasing_tactic; exact h)
      decreasing_tactic
      exact ⟨hc.mem (by simp), h⟩
  · refine ⟨_, rfl, 0, by decide +kernel, ?_⟩
    match r with
    | [] => decreasing_tactic; exact h
    | y :: r => decreasing_tactic; exact h
  · refine ⟨_, rfl, 1, by decide +kernel, ?_⟩
    match r with
    | [] => decreasing_tactic; exact h
    | y :: z :: r => decreasing_tactic; exact h
    | [y] =>
      decreasing_tactic
      exact ⟨hc.mem (by simp), h⟩
  · refine ⟨_, rfl, 1, by decide +kernel, ?_⟩
    match r with
    | [] => decreasing_tactic; exact h
    | y :: z :: r => decreasing_tactic; exact h
    | [y] =>
      decreasing_tactic
      exact ⟨hc.mem (by simp), h⟩
  · refine ⟨_, rfl, 0, by decide +kernel, ?_⟩
    match r with
    | [] => decreasing_tactic; exact h
    | y :: r => decreasing_tactic; exact h
  · refine ⟨_, rfl, 1, by decide +kernel, ?_⟩
    match r with
    | [] => decreasing_tactic; exact h
    | y :: z :: r => decreasing_tactic; exact h
    | [y] =>
      decreasing_tactic
      refine ⟨hc.mem (by simp), ?_⟩
      decreasing_tactic
      have h : R (.bool (NA.dotD y)) := h
      refine ifNE (b := NA.dotD y) (fun e => by rw [e] at h; decreasing_tactic; exact h) (fun e => by rw [e] at h; decreasing_tactic; exact h)⟩
end
/-! ### _law_is_deed -/
@[reducible] def sp__law_is_deed : SpecD := askC Cd deedP
theorem in_words {x : Str} : inD (.str x) (.list [.str "put", .str "out", .str "tell", .str "take", .str "go", .str "bring", .str "cut", .str "leave", .str "fall", .str "drop"]) = decide (x ∈ wordsL) := by
  show ((("put" : Str) == x) || ((("out" : Str) == x) || ((("tell" : Str) == x) || ((("take" : Str) == x) || ((("go" : Str) == x) || ((("bring" : Str) == x) || ((("cut" : Str) == x) || ((("leave" : Str) == x) || ((("fall" : Str) == x) || ((("drop" : Str) == x) || false)))))))))) = _
  rw [Bool.eq_iff_iff, decide_eq_true_iff]
  simp only [wordsL, Bool.or_eq_true, beq_iff_eq, List.mem_cons, List.mem_nil_iff, or_false, Bool.false_eq_true, @eq_comm Str x]
theorem rest_out {x : Str} (h : ¬ x ∈ wordsL) {r : List PyData} : restP (.str x) r = false := by
  have n : ∀ y ∈ wordsL, PyData.eqv (.str x) (.str y) = false ∧ PyData.eqv (.str y) (.str x) = false := fun y m => ⟨eqv_ne fun e => h (e ▸ m), eqv_ne fun e => h (e ▸ m)⟩
  have e1 : inD (.str x) (.tuple [.str "bring", .str "fall"]) = false := by
    show (PyData.eqv (.str "bring") (.str x) || (PyData.eqv (.str "fall") (.str x) || false)) = false
    rw [(n "bring" (by decide)).2, (n "fall" (by decide)).2]
    rfl
  have e2 : inD (.str x) (.tuple [.str "out", .str "drop"]) = false := by
    show (PyData.eqv (.str "out") (.str x) || (PyData.eqv (.str "drop") (.str x) || false)) = false
    rw [(n "out" (by decide)).2, (n "drop" (by decide)).2]
    rfl
  have e3 : inD (.str x) (.tuple [.str "cut", .str "leave"]) = false := by
    show (PyData.eqv (.str "cut") (.str x) || (PyData.eqv (.str "leave") (.str x) || false)) = false
    rw [(n "cut" (by decide)).2, (n "leave" (by decide)).2]
    rfl
  unfold restP
  rw [e1, if_neg Bool.false_ne_true, (n "go" (by decide)).1, if_neg Bool.false_ne_true]
  match r with
  | [] => rfl
  | y :: z :: r => rfl
  | [y] =>
    show whatP (.str x) y = false
    unfold whatP
    rw [e2, e3, (n "put" (by decide)).1, (n "tell" (by decide)).1, (n "take" (by decide)).1]
    rfl
theorem rest_non {w : PyData} (h : ∀ x, w ≠ .str x) {r : List PyData} : restP w r = false := by
  cases w with
  | str x => exact absurd rfl (h x)
  | _ =>
    match r with
    | [] => rfl
    | [y] => rfl
    | y :: z :: r => rfl
theorem Cd.drop2 {w s : PyData} {r : List PyData} (h : Cd (.tuple (w :: s :: r))) : Cd (.tuple r) := by
  obtain ⟨x1, x2, x3⟩ := (md_tup (k := 63)).mp h
  refine (md_tup (k := 63)).mpr ⟨fun d m => x1 d (by simp [m]), ?_, fun d m => x3 d (by simp [m])⟩
  rw [bulkAll_cons, bulkAll_cons] at x2
  omega
def cost__law_is_deed : Nat := 0
def rd__law_is_deed : DS := (seqS (asgS (asL (lstN (consA (cD (.str "put")) (consA (cD (.str "out")) (consA (cD (.str "tell")) (consA (cD (.str "take")) (consA (cD (.str "go")) (consA (cD (.str "bring")) (consA (cD (.str "cut")) (consA (cD (.str "leave")) (consA (cD (.str "fall")) (consA (cD (.str "drop")) nilA)))))))))))) (gN 1)) (seqS (ifS (orT (notT (tr (isiD NA.isT (vD 0)))) (tr (oD ltO (b1D lenO (vD 0)) (cD (.int 2))))) (retS (cD (.bool false))) nilS) (seqS (ifS (orT (notT (tr (isiD NA.isS (oD ixO (vD 0) (cD (.int 0)))))) (tr (oD ninO (oD ixO (vD 0) (cD (.int 0))) (vD 1)))) (retS (cD (.bool false))) nilS) (retS (andD (callD sp__law_is_seat (dSA (oD ixO (vD 0) (cD (.int 1))) nilSA)) (callD sp__law_is_rest (dSA (oD ixO (vD 0) (cD (.int 0))) (dSA (slD (vD 0) (someO (cD (.int 2))) noO) nilSA))))))))
section
variable {P : Program} {w : World} {K : PySem.W.Frag} {mg : Str → Option Value} {base : Heap} {Ts : List Addr} {fa : Nat → Addr} {fdd : Nat → FuncData} {ca ta : Nat → Addr} {g : Option Addr} {sa ga : Addr} {n0 : Int} {ns : List Int}
theorem dv__law_is_deed (Z : Fx K mg base Ts fa fdd ca ta) {A : Around} {outer : List Env} {s : Shared} {H : Hp} {E : XK} {F0 : List Addr} (hr : Room 5 (A.deeper (envOfC "_law_is_deed" (defScope s39) s.heap.objs.size (fa 39) (.ref (ca 39))))) : ∃ κ, PDSs (cxOf CX0 P w K mg base N39 "_law_is_deed" (defScope s39) (fa 39) (.ref (ca 39)) A outer s H E).nox (cc0 ⟨K, Ts, g, sa, (n0 :: ns), 2⟩ H F0) κ (defBody s39) rd__law_is_deed ∧ κ ≤ cost__law_is_deed :=
  ⟨_, (ss_cons (s_asg (PN.pd (n_lst (a_cons d_str (a_cons d_str (a_cons d_str (a_cons d_str (a_cons d_str (a_cons d_str (a_cons d_str (a_cons d_str (a_cons d_str (a_cons d_str a_nil)))))))))))) (g_name (pg_name (i := 1) sc39.nd rfl (by first | exact Or.inl rfl | exact Or.inr rfl)))) (ss_cons (s_if (PW.pt (w_or (t_not (t_val (d_isi (T := "tuple") (fun _ _ _ h => NA.kitTuple h) (by rfl) Z.b_isinstance (PD.pp (d_var (pv 0))) (pe_bltn (by rfl) Z.b_tuple (by decide +kernel) (v := .ty "tuple") rfl)))) (w_or1 (t_cmp (ol_lt hr) oo_cmp (PD.pp (d_len (by rfl) Z.b_len (PD.pp (d_var (pv 0))))) (PD.pp d_int) (nomark _))))) (ss_one (s_ret d_bl)) ss_nil) (ss_cons (s_if (PW.pt (w_or (t_not (t_val (d_isi (T := "str") (fun _ _ _ h => NA.kitStr h) (by rfl) Z.b_isinstance (PD.pp (d_ix (PD.pp (d_var (pv 0))) (PD.pp d_int) (fun _ _ => rfl))) (pe_bltn (by rfl) Z.b_str (by decide +kernel) (v := .ty "str") rfl)))) (w_or1 (t_cmp (ol_nin hr) oo_nin (PD.pp (d_ix (PD.pp (d_var (pv 0))) (PD.pp d_int) (fun _ _ => rfl))) (PD.pp (d_var (pv 1))) (by first | rfl | with_unfolding_all rfl))))) (ss_one (s_ret d_bl)) ss_nil) (ss_one (s_ret (d_and (d_call (ok__law_is_seat Z) (hr.mono (by decide)) rfl Z.g26 Z.F26.kp Z.b26 (sa_d (d_ix (PD.pp (d_var (pv 0))) (PD.pp d_int) (fun _ _ => rfl)) sa_nil)) (d_one (d_call (ok__law_is_rest Z) (hr.mono (by decide)) rfl Z.g38 Z.F38.kp Z.b38 (sa_d (d_ix (PD.pp (d_var (pv 0))) (PD.pp d_int) (fun _ _ => rfl)) (sa_d (d_sl (PD.pp (d_var (pv 0))) (o_some (PD.pp d_int)) o_none) sa_nil)))))))))), by decide +kernel⟩
theorem ok__law_is_deed (Z : Fx K mg base Ts fa fdd ca ta) : FnOk P w K mg base CX0 6 (fa 39) (fdd 39) p39 (spD ⟨K, Ts, g, sa, (n0 :: ns), 2⟩ cost__law_is_deed sp__law_is_deed) := okD Z.F39 Z.c39 sc39 c1 fun A outer s H E F0 hr => ⟨_, dv__law_is_deed Z hr, fun ss R h => by
  obtain ⟨d, rfl, hc, h⟩ := sp1_ok h
  unfold rd__law_is_deed
  cases d with
  | tuple ds =>
    match ds with
    | [] => decreasing_tactic; exact h
    | [x] => decreasing_tactic; exact h
    | w :: s :: r =>
      have h' : R (.bool (NA.seatD s && restP w r)) := h
      decreasing_tactic
      cases w with
      | str x =>
        decreasing_tactic
        rw [in_words]
        refine ifNE (b := decide (x ∈ wordsL)) (fun e => ?_) (fun e => ?_)
        · rw [rest_out (of_decide_eq_false e), Bool.and_false] at h'
          decreasing_tactic
          exact h'
        decreasing_tactic
        refine ⟨hc.mem (by simp), ?_⟩
        decreasing_tactic
        refine and_step h' (fun _ h' => ?_) (fun h' => h')
        decreasing_tactic
        have c1 : DL.cutD (.str x :: s :: r) (some 2) none = r := cutD_from 2
        refine ⟨x, r, rfl, of_decide_eq_true e, congrArg PyData.tuple c1, ?_, h'⟩
        rw [c1]
        exact Cd.drop2 hc
      | _ =>
        rw [rest_non (fun x z => by cases z), Bool.and_false] at h'
        decreasing_tactic
        exact h'
  | _ => decreasing_tactic; exact h⟩
end
end K62

namespace K62
open PySem PySem.Spec PyProof.Rows L2 GX DL
local macro_rules | `(tactic| decreasing_tactic) => `(tactic| (repeat (first | with_reducible refine i_seq ?_ | with_reducible refine i_ret ?_ | with_reducible refine i_retN ?_ | with_reducible refine i_nil ?_ | with_reducible refine i_if ?_ | with_reducible refine i_asg ?_ | with_reducible refine i_own ?_ | with_reducible refine i_for ?_ | with_reducible refine i_forL ?_ | with_reducible refine i_c ?_ | with_reducible refine i_o ?_ | with_reducible refine i_ch ?_ | with_reducible refine i_tr ?_ | with_reducible refine i_tru ?_ | with_reducible refine i_andT ?_ | with_reducible refine i_orT ?_ | with_reducible refine i_notT ?_ | with_reducible refine i_andD ?_ | with_reducible refine i_orD ?_ | with_reducible refine i_notD ?_ | with_reducible refine i_ifD ?_ | with_reducible refine i_isi ?_ | with_reducible refine i_b1 ?_ | with_reducible refine i_m1 ?_ | with_reducible refine i_neg ?_ | with_reducible refine i_call ?_ | with_reducible refine i_dSA ?_ | with_reducible refine i_fnSA ?_ | with_reducible refine i_nilSA ?_ | with_reducible refine i_tup ?_ | with_reducible refine i_lst ?_ | with_reducible refine i_asL ?_ | with_reducible refine i_nilA ?_ | with_reducible refine i_consA ?_ | with_reducible refine i_sl ?_ | with_reducible refine i_slN ?_ | with_reducible refine i_noO ?_ | with_reducible refine i_someO ?_ | with_reducible refine i_rev ?_ | with_reducible refine i_gN ?_ | with_reducible refine i_gC ?_ | with_reducible refine i_gNil ?_ | with_reducible refine i_lc ?_ | with_reducible refine i_lcL ?_ | with_reducible refine i_aa ?_ | with_reducible refine i_tupN ?_ | with_reducible refine i_seqI ?_ | with_reducible refine i_rg1 ?_ | with_reducible refine i_rg2 ?_ | with_reducible refine i_cat ?_ | with_reducible refine i_list1 ?_ | with_reducible refine i_sort ?_ | with_reducible refine i_yes ?_ | with_reducible refine i_onB ?_ | with_reducible refine i_onI ?_ | with_reducible refine i_onS ?_ | with_reducible refine i_onT ?_ | with_reducible refine i_onL ?_ | with_reducible refine i_wT ?_ | with_reducible refine i_wL ?_ | with_reducible refine i_wS ?_ | with_reducible refine i_itT ?_ | with_reducible refine i_itL ?_ | with_reducible refine i_lenT ?_ | with_reducible refine i_lenL ?_ | with_reducible refine i_ix0 ?_ | with_reducible refine i_ix1 ?_ | with_reducible refine i_ix2 ?_ | with_reducible refine i_ix3 ?_ | with_reducible refine i_tuple1L ?_ | with_reducible refine i_tuple1T ?_ | with_reducible refine i_addI ?_ | with_reducible refine i_subI ?_ | with_reducible refine i_ltI ?_ | with_reducible refine i_intB ?_ | with_reducible refine i_s1 ?_ | with_reducible refine i_s2 ?_ | with_reducible refine i_s3 ?_ | with_reducible refine i_sF0 ?_ | with_reducible refine i_sF1 ?_ | with_reducible refine i_tt ?_ | with_reducible refine i_ff ?_ | with_reducible refine i_ntt ?_ | with_reducible refine i_nff ?_ | with_reducible refine i_dict ?_ | with_reducible refine i_rep ?_ | with_reducible refine i_slL ?_ | with_reducible refine i_slT ?_ | with_reducible refine i_newD ?_ | with_reducible refine i_dictO ?_ | with_reducible refine i_call0 ?_ | with_reducible refine i_s00 ?_ | with_reducible refine i_v (by with_unfolding_all rfl) ?_ | with_reducible refine i_vP (by with_unfolding_all rfl) ?_ | with_reducible refine i_vO (by with_unfolding_all rfl) ?_ | with_reducible refine i_feedSA (by with_unfolding_all rfl) ?_ | with_reducible refine i_callL (by with_unfolding_all rfl) ?_ | with_reducible refine i_gT (by with_unfolding_all rfl) ?_ | with_reducible refine i_app (by with_unfolding_all rfl) ?_ | with_reducible refine i_ext (by with_unfolding_all rfl) ?_ | with_reducible refine i_frz (by with_unfolding_all rfl) ?_ | with_reducible refine ifNT (by with_unfolding_all rfl) ?_ | with_reducible refine ifNF (by with_unfolding_all rfl) ?_ | with_reducible refine ifT (by with_unfolding_all rfl) ?_ | with_reducible refine ifF (by with_unfolding_all rfl) ?_ | with_reducible refine i_setD (by with_unfolding_all rfl) ?_ | with_reducible refine i_ixN (by with_unfolding_all rfl) ?_ | with_reducible refine i_inN (by with_unfolding_all rfl) ?_ | with_reducible refine i_sortDO (by with_unfolding_all rfl) ?_ | with_reducible refine i_szL (by with_unfolding_all rfl) ?_ | with_reducible refine i_eq1 (by with_unfolding_all rfl) ?_ | with_reducible refine i_eq2 (by with_unfolding_all rfl) ?_ | with_reducible refine i_in1 (by with_unfolding_all rfl) ?_ | with_reducible refine i_in2 (by with_unfolding_all rfl) ?_ | with_reducible refine i_nin1 (by with_unfolding_all rfl) ?_ | with_reducible refine i_nin2 (by with_unfolding_all rfl) ?_ | with_reducible refine i_catL (by with_unfolding_all rfl) ?_ | with_reducible refine i_catT (by with_unfolding_all rfl) ?_ | with_reducible refine i_rgc (by with_unfolding_all rfl) ?_ | with_reducible refine i_rgl (by with_unfolding_all rfl) ?_)))
/-! ### _law_any_deed -/
def RestK (d : PyData) : Prop := ∃ r, d = .tuple r ∧ Md 0 120 5 d
@[reducible] def sp__law_any_deed : SpecD := spF1 fun w R => ∃ x, w = .str x ∧ x ∈ wordsL ∧ ∀ s r, NA.seatD s = true → Md 0 120 5 (.tuple r) → R (.tuple (.str x :: s :: r))
theorem rest1 {d : PyData} (h : Md 0 100 4 d) : RestK (.tuple [d]) := ⟨_, rfl, md_tupS (b := 100) (n := 1) (k := 4) (fun q m => by rw [List.mem_singleton.mp m]; exact h) (Nat.le_refl 1) (by decide)⟩
theorem rest2 {d e : PyData} (h : Md 0 10 2 d) (h2 : Md 0 70 3 e) : RestK (.tuple [d, e]) := ⟨_, rfl, (md2 (b := 10) (c := 70) (k := 3) (B := 82) (h.mono (by decide) (by decide) (by decide)) h2 (by decide)).mono (by decide) (by decide) (by decide)⟩
theorem rest0 : RestK (.tuple []) := ⟨_, rfl, md_of (by decide +kernel)⟩
theorem md_pair {s : PyData} {n : Int} (hs : NA.seatD s = true) (hn : n.natAbs ≤ 1000) : Md 0 10 2 (.tuple [s, .int n]) := md2 (b := 5) (c := 0) (k := 1) (md_seat hs (by decide) (by decide)) (md_small (by omega)) (by decide)
def cost__law_any_deed : Nat := 680564733841876927129663399674341490702
def rd__law_any_deed (P : Program) (w : World) (K : PySem.W.Frag) : DS := (seqS (parS 2 3 (consA (callD sp__law_any_seat (feedSA 0 nilSA)) (consA (callD sp__law_any_seat (feedSA 0 nilSA)) nilA))) (seqS (asgS (tupD (consA (vD 3) (consA (oD addO (cD (.int 1)) (callD (specTake 1000000) (feedSA 0 (dSA (cD (.int 3)) nilSA)))) nilA))) (gN 4)) (seqS (dispT P w K 5 (consP "put" (tupD (consA (callD sp__law_any_thing (feedSA 0 nilSA)) nilA)) (consP "out" (tupD (consA (vD 4) nilA)) (consP "drop" (tupD (consA (vD 4) nilA)) (consP "bring" (tupD nilA) (consP "fall" (tupD nilA) nilP)))))) (seqS (updT P w K 5 (consP "tell" (tupD (consA (b1D tuple1O (callD sp__law_any_dots (feedSA 0 nilSA))) nilA)) (consP "take" (tupD (consA (tupD (consA (vD 3) (consA (callD (specTake 1000000) (feedSA 0 (dSA (cD (.int 4)) nilSA))) nilA))) nilA)) nilP))) (seqS (setT P w K 5 "go" (tupD (consA (vD 4) (consA (callD sp__law_any_paper (feedSA 0 nilSA)) nilA)))) (seqS (updT P w K 5 (consP "cut" (tupD (consA (vD 3) nilA)) (consP "leave" (tupD (consA (vD 3) nilA)) nilP))) (retS (oD addO (tupD (consA (vD 1) (consA (vD 2) nilA))) (ixT P w K 5 (vD 1))))))))))
section
variable {P : Program} {w : World} {K : PySem.W.Frag} {mg : Str → Option Value} {base : Heap} {Ts : List Addr} {fa : Nat → Addr} {fdd : Nat → FuncData} {ca ta : Nat → Addr} {g : Option Addr} {sa ga : Addr} {n0 : Int} {ns : List Int}
theorem dv__law_any_deed (Z : Fx K mg base Ts fa fdd ca ta) {A : Around} {outer : List Env} {s : Shared} {H : Hp} {E : XK} {F0 : List Addr} (hr : Room 3 (A.deeper (envOfC "_law_any_deed" (defScope s41) s.heap.objs.size (fa 41) (.ref (ca 41))))) : ∃ κ, PDSs (cxOf CX0 P w K mg base N41 "_law_any_deed" (defScope s41) (fa 41) (.ref (ca 41)) A outer s H E).nox (cc0 ⟨K, Ts, (some ga), sa, (n0 :: ns), 2⟩ H F0) κ (defBody s41) (rd__law_any_deed P w K) ∧ κ ≤ cost__law_any_deed :=
  ⟨_, (ss_cons (s_par (i := 2) (j := 3) rfl sc41.nd rfl rfl (by decide) rfl rfl (a_cons (d_call (ok__law_any_seat Z) (hr.mono (by decide)) rfl Z.g32 Z.F32.kp Z.b32 (sa_feed (pv 0) sa_nil)) (a_cons (d_call (ok__law_any_seat Z) (hr.mono (by decide)) rfl Z.g32 Z.F32.kp Z.b32 (sa_feed (pv 0) sa_nil)) a_nil)) (by rfl)) (ss_cons (s_asg (d_tup (a_cons (d_var (pv 3)) (a_cons (d_add (PD.pp d_int) (PD.pp (d_call (ok__law_next Z) (hr.mono (by decide)) rfl Z.g24 Z.F24.kp Z.b24 (sa_feed (pv 0) (sa_d d_int sa_nil))))) a_nil))) (g_name (pg_name (i := 4) sc41.nd rfl (by first | exact Or.inl rfl | exact Or.inr rfl)))) (ss_cons (s_dispT (i := 5) (by exact pe_dn (pp_cons pe_str (d_tup (a_cons (d_call (ok__law_any_thing Z) (hr.mono (by decide)) rfl Z.g35 Z.F35.kp Z.b35 (sa_feed (pv 0) sa_nil)) a_nil)) (pp_cons pe_str (d_tup (a_cons (d_var (pv 4)) a_nil)) (pp_cons pe_str (d_tup (a_cons (d_var (pv 4)) a_nil)) (pp_cons pe_str (d_tup a_nil) (pp_cons pe_str (d_tup a_nil) pp_nil))))) (by rfl) (by rfl) (fun z => by cases z) (by decide)) (pg_name (i := 5) sc41.nd rfl (by first | exact Or.inl rfl | exact Or.inr rfl))) (ss_cons (s_updT (pv 5) (by exact pe_dn (pp_cons pe_str (d_tup (a_cons (d_tuple1 (by rfl) Z.b_tuple (PD.pp (d_call (ok__law_any_dots Z) (hr.mono (by decide)) rfl Z.g34 Z.F34.kp Z.b34 (sa_feed (pv 0) sa_nil)))) a_nil)) (pp_cons pe_str (d_tup (a_cons (d_tup (a_cons (d_var (pv 3)) (a_cons (d_call (ok__law_next Z) (hr.mono (by decide)) rfl Z.g24 Z.F24.kp Z.b24 (sa_feed (pv 0) (sa_d d_int sa_nil))) a_nil))) a_nil)) pp_nil)) (by rfl) (by rfl) (fun z => by cases z) (by decide))) (ss_cons (s_setT hr (pv 5) pe_str (d_tup (a_cons (d_var (pv 4)) (a_cons (d_call (ok__law_any_paper Z) (hr.mono (by decide)) rfl Z.g40 Z.F40.kp Z.b40 (sa_feed (pv 0) sa_nil)) a_nil)))) (ss_cons (s_updT (pv 5) (by exact pe_dn (pp_cons pe_str (d_tup (a_cons (d_var (pv 3)) a_nil)) (pp_cons pe_str (d_tup (a_cons (d_var (pv 3)) a_nil)) pp_nil)) (by rfl) (by rfl) (fun z => by cases z) (by decide))) (ss_one (s_ret (d_add (PD.pp (d_tup (a_cons (d_var (pv 1)) (a_cons (d_var (pv 2)) a_nil)))) (PD.pp (d_ixT hr (pv 5) (d_var (pv 1)) (fun _ _ => rfl)))))))))))), by decide +kernel⟩
theorem ok__law_any_deed (Z : Fx K mg base Ts fa fdd ca ta) : FnOk P w K mg base CX0 4 (fa 41) (fdd 41) p41 (spD ⟨K, Ts, (some ga), sa, (n0 :: ns), 2⟩ cost__law_any_deed sp__law_any_deed) := okD Z.F41 Z.c41 sc41 cF1 fun A outer s H E F0 hr => ⟨_, dv__law_any_deed Z hr, fun ss R h0 => by
  obtain ⟨w, rfl, x, rfl, hx, h⟩ := spF1_ok h0
  clear h0
  unfold rd__law_any_deed
  decreasing_tactic
  refine i_par ?_
  decreasing_tactic
  intro s hs
  decreasing_tactic
  intro t ht
  decreasing_tactic
  refine ⟨_, _, rfl, ?_⟩
  decreasing_tactic
  refine i_draw (by decide) (by decide) fun n n0 n1 => ?_
  decreasing_tactic
  have dot : Md 0 100 4 (.tuple [t, .int (1 + n)]) := (md_pair ht (by omega)).mono (by decide) (by decide) (by decide)
  refine i_dispT ?_
  refine i_consP ?_
  decreasing_tactic
  intro th hth
  have hth : Md 0 100 4 th := hth.mono (by decide) (by decide) (by decide)
  decreasing_tactic
  refine i_consP ?_
  decreasing_tactic
  refine i_consP ?_
  decreasing_tactic
  refine i_consP ?_
  decreasing_tactic
  refine i_consP ?_
  decreasing_tactic
  refine i_nilP ?_
  have r1 := TvOk.nil.merge (TvOk.pair (x := "put") (TvOk.pair (x := "out") (TvOk.pair (x := "drop") (TvOk.pair (x := "bring") (TvOk.pair (x := "fall") TvOk.nil rest0) rest0) (rest1 dot)) (rest1 dot)) (rest1 hth))
  revert r1
  generalize mergeT [] _ = kkr1
  intro r1
  decreasing_tactic
  refine i_updT (by with_unfolding_all rfl) (Nat.le_trans r1.len (by decide)) ?_
  refine i_consP ?_
  decreasing_tactic
  intro ds hl hds
  decreasing_tactic
  refine i_consP ?_
  decreasing_tactic
  refine i_draw (by decide) (by decide) fun b b0 b1 => ?_
  decreasing_tactic
  refine i_nilP ?_
  have tk : Md 0 100 4 (.tuple [t, .int b]) := (md_pair ht (by omega)).mono (by decide) (by decide) (by decide)
  have tl : Md 0 100 4 (.tuple ds) := (md_tupS (b := 10) (n := 3) (k := 2) (fun q m => md_dot (hds q m) (by decide) (by decide)) hl (by decide) : Md 0 33 3 (.tuple ds)).mono (by decide) (by decide) (by decide)
  have r2 := r1.merge (TvOk.nil.merge (TvOk.pair (x := "tell") (TvOk.pair (x := "take") TvOk.nil (rest1 tk)) (rest1 tl)))
  revert r2
  generalize mergeT kkr1 _ = kkr2
  intro r2
  decreasing_tactic
  refine i_setT (by with_unfolding_all rfl) (Nat.le_trans r2.len (by decide)) ?_
  decreasing_tactic
  intro p hp
  decreasing_tactic
  have r3 := r2.put (x := "go") (rest2 (md_pair (n := 1 + n) ht (by omega)) hp)
  refine i_updT (by with_unfolding_all rfl) (Nat.le_trans r3.len (by decide)) ?_
  refine i_consP ?_
  decreasing_tactic
  refine i_consP ?_
  decreasing_tactic
  refine i_nilP ?_
  have mt : Md 0 100 4 t := md_seat ht (by decide) (by decide)
  have r4 := r3.merge (TvOk.nil.merge (TvOk.pair (x := "cut") (TvOk.pair (x := "leave") TvOk.nil (rest1 mt)) (rest1 mt)))
  revert r4
  generalize mergeT _ (mergeT [] _) = kkr4
  intro r4
  decreasing_tactic
  refine i_ixT (by with_unfolding_all rfl) ?_
  decreasing_tactic
  refine i_getT r4 ?_ fun v ⟨r, e, hv⟩ => ?_
  · simp only [wordsL, List.mem_cons, List.mem_nil_iff, or_false] at hx
    rcases hx with rfl | rfl | rfl | rfl | rfl | rfl | rfl | rfl | rfl | rfl <;> decide +kernel
  subst e
  decreasing_tactic
  have lr := hv.len
  refine ⟨few (by show 2 + r.length ≤ _; omega), ?_⟩
  exact h s r hs hv⟩
end
end K62

namespace K62
open PySem PySem.Spec PyProof.Rows L2 GX DL
local macro_rules | `(tactic| decreasing_tactic) => `(tactic| (repeat (first | with_reducible refine i_seq ?_ | with_reducible refine i_ret ?_ | with_reducible refine i_retN ?_ | with_reducible refine i_nil ?_ | with_reducible refine i_if ?_ | with_reducible refine i_asg ?_ | with_reducible refine i_own ?_ | with_reducible refine i_for ?_ | with_reducible refine i_forL ?_ | with_reducible refine i_c ?_ | with_reducible refine i_o ?_ | with_reducible refine i_ch ?_ | with_reducible refine i_tr ?_ | with_reducible refine i_tru ?_ | with_reducible refine i_andT ?_ | with_reducible refine i_orT ?_ | with_reducible refine i_notT ?_ | with_reducible refine i_andD ?_ | with_reducible refine i_orD ?_ | with_reducible refine i_notD ?_ | with_reducible refine i_ifD ?_ | with_reducible refine i_isi ?_ | with_reducible refine i_b1 ?_ | with_reducible refine i_m1 ?_ | with_reducible refine i_neg ?_ | with_reducible refine i_call ?_ | with_reducible refine i_dSA ?_ | with_reducible refine i_fnSA ?_ | with_reducible refine i_nilSA ?_ | with_reducible refine i_tup ?_ | with_reducible refine i_lst ?_ | with_reducible refine i_asL ?_ | with_reducible refine i_nilA ?_ | with_reducible refine i_consA ?_ | with_reducible refine i_sl ?_ | with_reducible refine i_slN ?_ | with_reducible refine i_noO ?_ | with_reducible refine i_someO ?_ | with_reducible refine i_rev ?_ | with_reducible refine i_gN ?_ | with_reducible refine i_gC ?_ | with_reducible refine i_gNil ?_ | with_reducible refine i_lc ?_ | with_reducible refine i_lcL ?_ | with_reducible refine i_aa ?_ | with_reducible refine i_tupN ?_ | with_reducible refine i_seqI ?_ | with_reducible refine i_rg1 ?_ | with_reducible refine i_rg2 ?_ | with_reducible refine i_cat ?_ | with_reducible refine i_list1 ?_ | with_reducible refine i_sort ?_ | with_reducible refine i_yes ?_ | with_reducible refine i_onB ?_ | with_reducible refine i_onI ?_ | with_reducible refine i_onS ?_ | with_reducible refine i_onT ?_ | with_reducible refine i_onL ?_ | with_reducible refine i_wT ?_ | with_reducible refine i_wL ?_ | with_reducible refine i_wS ?_ | with_reducible refine i_itT ?_ | with_reducible refine i_itL ?_ | with_reducible refine i_lenT ?_ | with_reducible refine i_lenL ?_ | with_reducible refine i_ix0 ?_ | with_reducible refine i_ix1 ?_ | with_reducible refine i_ix2 ?_ | with_reducible refine i_ix3 ?_ | with_reducible refine i_tuple1L ?_ | with_reducible refine i_tuple1T ?_ | with_reducible refine i_addI ?_ | with_reducible refine i_subI ?_ | with_reducible refine i_ltI ?_ | with_reducible refine i_intB ?_ | with_reducible refine i_s1 ?_ | with_reducible refine i_s2 ?_ | with_reducible refine i_s3 ?_ | with_reducible refine i_sF0 ?_ | with_reducible refine i_sF1 ?_ | with_reducible refine i_tt ?_ | with_reducible refine i_ff ?_ | with_reducible refine i_ntt ?_ | with_reducible refine i_nff ?_ | with_reducible refine i_dict ?_ | with_reducible refine i_rep ?_ | with_reducible refine i_slL ?_ | with_reducible refine i_slT ?_ | with_reducible refine i_newD ?_ | with_reducible refine i_dictO ?_ | with_reducible refine i_call0 ?_ | with_reducible refine i_s00 ?_ | with_reducible refine i_v (by with_unfolding_all rfl) ?_ | with_reducible refine i_vP (by with_unfolding_all rfl) ?_ | with_reducible refine i_vO (by with_unfolding_all rfl) ?_ | with_reducible refine i_feedSA (by with_unfolding_all rfl) ?_ | with_reducible refine i_callL (by with_unfolding_all rfl) ?_ | with_reducible refine i_gT (by with_unfolding_all rfl) ?_ | with_reducible refine i_app (by with_unfolding_all rfl) ?_ | with_reducible refine i_ext (by with_unfolding_all rfl) ?_ | with_reducible refine i_frz (by with_unfolding_all rfl) ?_ | with_reducible refine ifNT (by with_unfolding_all rfl) ?_ | with_reducible refine ifNF (by with_unfolding_all rfl) ?_ | with_reducible refine ifT (by with_unfolding_all rfl) ?_ | with_reducible refine ifF (by with_unfolding_all rfl) ?_ | with_reducible refine i_setD (by with_unfolding_all rfl) ?_ | with_reducible refine i_ixN (by with_unfolding_all rfl) ?_ | with_reducible refine i_inN (by with_unfolding_all rfl) ?_ | with_reducible refine i_sortDO (by with_unfolding_all rfl) ?_ | with_reducible refine i_szL (by with_unfolding_all rfl) ?_ | with_reducible refine i_eq1 (by with_unfolding_all rfl) ?_ | with_reducible refine i_eq2 (by with_unfolding_all rfl) ?_ | with_reducible refine i_in1 (by with_unfolding_all rfl) ?_ | with_reducible refine i_in2 (by with_unfolding_all rfl) ?_ | with_reducible refine i_nin1 (by with_unfolding_all rfl) ?_ | with_reducible refine i_nin2 (by with_unfolding_all rfl) ?_ | with_reducible refine i_catL (by with_unfolding_all rfl) ?_ | with_reducible refine i_catT (by with_unfolding_all rfl) ?_ | with_reducible refine i_rgc (by with_unfolding_all rfl) ?_ | with_reducible refine i_rgl (by with_unfolding_all rfl) ?_)))
def LawJ (ρ : DEnv) : Prop := ∃ a0 a2 a3 a4 a5 a6 a7 a8 : Option SV, ρ = [a0, some .feed, a2, a3, a4, a5, a6, a7, a8]
def wordsD : List PyData := [.str "put", .str "out", .str "tell", .str "take", .str "go", .str "bring", .str "cut", .str "leave", .str "fall", .str "drop"]
def InJ (j : Nat) (ρ : DEnv) : Prop := ∃ (a0 a4 a5 a6 a7 a8 : Option SV) (zs : List PyData), ρ = [a0, some .feed, some (.d (.list wordsD)), some (.own zs), a4, a5, a6, a7, a8] ∧ zs.length ≤ 16 + 7 * j ∧ ∀ z ∈ zs, Md 1000 90000 20 z
theorem words_mem {d : PyData} (h : d ∈ wordsD) : ∃ x, d = .str x ∧ x ∈ wordsL := by
  simp only [wordsD, List.mem_cons, List.mem_nil_iff, or_false] at h
  rcases h with rfl | rfl | rfl | rfl | rfl | rfl | rfl | rfl | rfl | rfl <;> exact ⟨_, rfl, by decide +kernel⟩
theorem word_md {x : Str} (h : x ∈ wordsL) : Md 0 5 0 (.str x) := by
  simp only [wordsL, List.mem_cons, List.mem_nil_iff, or_false] at h
  rcases h with rfl | rfl | rfl | rfl | rfl | rfl | rfl | rfl | rfl | rfl <;> exact md_of (by decide +kernel)
theorem deed_md {x : Str} {s : PyData} {r : List PyData} (hx : x ∈ wordsL) (hs : NA.seatD s = true) (hr : Md 0 120 5 (.tuple r)) : Md 0 140 5 (.tuple (.str x :: s :: r)) := by
  obtain ⟨x1, x2, x3⟩ := (md_tup (k := 4)).mp hr
  have mx := word_md hx
  have ms : Md 0 5 1 s := md_seat hs (by decide) (by decide)
  refine (md_tup (k := 4)).mpr ⟨fun d m => ?_, ?_, fun d m => ?_⟩
  · rcases List.mem_cons.mp m with rfl | m
    · exact mx.ok
    · rcases List.mem_cons.mp m with rfl | m
      · exact ms.ok
      · exact x1 d m
  · have z1 := mx.bulk
    have z2 := ms.bulk
    show (PyData.str x).bulk + 1 + (s.bulk + 1 + PyData.bulkAll r) ≤ 140
    omega
  · rcases List.mem_cons.mp m with rfl | m
    · exact Nat.le_trans mx.depth (by decide)
    · rcases List.mem_cons.mp m with rfl | m
      · exact Nat.le_trans ms.depth (by decide)
      · exact x3 d m
theorem md_cut {a b k : Nat} {ds : List PyData} {lo hi : Option Int} (h : Md a b (k + 1) (.tuple ds)) : Md a b (k + 1) (.tuple (DL.cutD ds lo hi)) := by
  obtain ⟨x1, x2, x3⟩ := md_tup.mp h
  refine md_tup.mpr ⟨fun d m => x1 d (cutD_mem m), ?_, fun d m => x3 d (cutD_mem m)⟩
  unfold DL.cutD
  exact Nat.le_trans take_le (Nat.le_trans drop_le x2)
theorem md_list {a b k : Nat} {ds : List PyData} (h : Md a b (k + 1) (.tuple ds)) : Md a b (k + 1) (.list ds) := by
  obtain ⟨x1, x2, x3⟩ := md_tup.mp h
  exact md_lst.mpr ⟨x1, x2, x3⟩
theorem head_md {w : PyData} {r : List PyData} (hw : Md 0 5 0 w) (hr : Md 0 140 5 (.tuple r)) : Md 0 146 5 (.tuple (w :: r)) := by
  obtain ⟨x1, x2, x3⟩ := (md_tup (k := 4)).mp hr
  refine (md_tup (k := 4)).mpr ⟨fun d m => ?_, ?_, fun d m => ?_⟩
  · rcases List.mem_cons.mp m with rfl | m
    · exact hw.ok
    · exact x1 d m
  · have z1 := hw.bulk
    show w.bulk + 1 + PyData.bulkAll r ≤ 146
    omega
  · rcases List.mem_cons.mp m with rfl | m
    · exact Nat.le_trans hw.depth (by decide)
    · exact x3 d m
/-! ### law -/

def cost_law : Nat := 12554203470773361531414684882545655937551401991645373136896
def rd_law : DS := (seqS (asgS (asL (lstN (consA (cD (.str "put")) (consA (cD (.str "out")) (consA (cD (.str "tell")) (consA (cD (.str "take")) (consA (cD (.str "go")) (consA (cD (.str "bring")) (consA (cD (.str "cut")) (consA (cD (.str "leave")) (consA (cD (.str "fall")) (consA (cD (.str "drop")) nilA)))))))))))) (gN 2)) (seqS (ownS 3 (lstN (consA (cD .none) (consA (cD (.bool true)) (consA (cD (.str "put")) (consA (tupD nilA) (consA (asL (lstN nilA)) (consA (tupD (consA (cD (.str "put")) nilA)) (consA (tupD (consA (cD (.str "fall")) (consA (tupD (consA (cD (.int 0)) nilA)) (consA (tupD nilA) nilA)))) (consA (tupD (consA (cD (.str "Fall")) (consA (tupD (consA (cD (.int 0)) nilA)) nilA))) (consA (tupD (consA (asL (lstN (consA (cD (.str "fall")) nilA))) (consA (tupD (consA (cD (.int 0)) nilA)) nilA))) nilA))))))))))) (seqS (ownS 3 (catN (vP 3) (asL (lstN (consA (tupD (consA (cD (.str "tell")) (consA (tupD (consA (cD (.int 0)) nilA)) (consA (tupD nilA) nilA)))) (consA (tupD (consA (cD (.str "tell")) (consA (tupD (consA (cD (.int 0)) nilA)) (consA (asL (lstN nilA)) nilA)))) (consA (tupD (consA (cD (.str "go")) (consA (tupD (consA (cD (.int 0)) nilA)) (consA (tupD (consA (tupD (consA (cD (.int 0)) nilA)) (consA (cD (.int 1)) nilA))) (consA (tupD nilA) nilA))))) nilA))))))) (seqS (ownS 3 (catN (vP 3) (asL (lstN (consA (tupD (consA (cD (.str "bring")) (consA (tupD (consA (cD (.int 4)) nilA)) nilA))) (consA (tupD (consA (cD (.int 0)) (consA (tupD (consA (cD (.int 0)) nilA)) nilA))) (consA (tupD (consA (cD (.str "go")) (consA (tupD (consA (cD (.int 0)) nilA)) (consA (cD (.int 1)) nilA)))) nilA))))))) (seqS (appS 3 (tupD (consA (cD (.str "tell")) (consA (tupD (consA (cD (.int 0)) nilA)) (consA (tupD (consA (tupD (consA (tupD (consA (cD (.int 0)) nilA)) (consA (cD (.int 2)) nilA))) (consA (tupD (consA (tupD (consA (cD (.int 0)) nilA)) (consA (cD (.int 1)) nilA))) (consA (tupD (consA (tupD (consA (cD (.int 0)) nilA)) (consA (cD (.int 1)) nilA))) nilA)))) nilA))))) (seqS (forSL 18446744073709551616 (seqI (oD addO (vD 2) (vD 2))) (gN 4) (seqS (asgS (callD sp__law_any_deed (feedSA 1 (dSA (vD 4) nilSA))) (gN 5)) (seqS (asgS (callD (sp__law_bent 20) (feedSA 1 (dSA (vD 5) nilSA))) (gN 6)) (seqS (ownS 3 (catN (vP 3) (asL (lstN (consA (vD 5) (consA (vD 6) (consA (callD (sp__law_bent 20) (feedSA 1 (dSA (vD 6) nilSA))) (consA (callD (sp__law_bent 20) (feedSA 1 (dSA (vD 5) nilSA))) (consA (asL (list1N (vD 5))) (consA (slD (vD 5) noO (someO (negD (cD (.int 1))))) nilA)))))))))) (appS 3 (oD addO (tupD (consA (oD ixO (vD 2) (callD (specTake 1000000) (feedSA 1 (dSA (cD (.int 10)) nilSA)))) nilA)) (slD (vD 5) (someO (cD (.int 1))) noO))))))) (seqS (frzS 3 (forS (seqI (vD 3)) (gN 7) (seqS (asgS (b1D reprO (vD 7)) (gN 8)) (ifS (orT (tr (oD neO (b1D reprO (callD sp_is_deed (dSA (vD 7) nilSA))) (b1D reprO (callD sp__law_is_deed (dSA (vD 7) nilSA))))) (tr (oD neO (b1D reprO (vD 7)) (vD 8)))) (retS (cD (.bool false))) nilS)))) (retS (cD (.bool true))))))))))
section
variable {P : Program} {w : World} {K : PySem.W.Frag} {mg : Str → Option Value} {base : Heap} {Ts : List Addr} {fa : Nat → Addr} {fdd : Nat → FuncData} {ca ta : Nat → Addr} {g : Option Addr} {sa ga : Addr} {n0 : Int} {ns : List Int}
theorem dv_law (Z : Fx K mg base Ts fa fdd ca ta) {A : Around} {outer : List Env} {s : Shared} {H : Hp} {E : XK} {F0 : List Addr} {H0 : Hp} {hs0 : List (V × PyData)} (hr : Calm 22 (cxOf CX0 P w K mg base N42 "law" (defScope s42) (fa 42) (.ref (ca 42)) A outer s H E).A) : ∃ κ, PDSs (cxOf CX0 P w K mg base N42 "law" (defScope s42) (fa 42) (.ref (ca 42)) A outer s H E).nox (⟨⟨K, Ts, (some ga), sa, (n0 :: ns), 2⟩, H0, F0, hs0⟩ : Cc) κ ((defBody s42).drop 1) rd_law ∧ κ ≤ cost_law :=
  ⟨_, (ss_cons (s_asg (PN.pd (n_lst (a_cons d_str (a_cons d_str (a_cons d_str (a_cons d_str (a_cons d_str (a_cons d_str (a_cons d_str (a_cons d_str (a_cons d_str (a_cons d_str a_nil)))))))))))) (g_name (pg_name (i := 2) sc42.nd rfl (by first | exact Or.inl rfl | exact Or.inr rfl)))) (ss_cons (s_own (i := 3) (n_lst (a_cons d_non (a_cons d_bl (a_cons d_str (a_cons (d_tup a_nil) (a_cons (PN.pd (n_lst a_nil)) (a_cons (d_tup (a_cons d_str a_nil)) (a_cons (d_tup (a_cons d_str (a_cons (d_tup (a_cons d_int a_nil)) (a_cons (d_tup a_nil) a_nil)))) (a_cons (d_tup (a_cons d_str (a_cons (d_tup (a_cons d_int a_nil)) a_nil))) (a_cons (d_tup (a_cons (PN.pd (n_lst (a_cons d_str a_nil))) (a_cons (d_tup (a_cons d_int a_nil)) a_nil))) a_nil)))))))))) (pg_name (i := 3) sc42.nd rfl (by first | exact Or.inl rfl | exact Or.inr rfl))) (ss_cons (s_own (i := 3) (n_cat (p_var (pv 3)) (PD.pp (PN.pd (n_lst (a_cons (d_tup (a_cons d_str (a_cons (d_tup (a_cons d_int a_nil)) (a_cons (d_tup a_nil) a_nil)))) (a_cons (d_tup (a_cons d_str (a_cons (d_tup (a_cons d_int a_nil)) (a_cons (PN.pd (n_lst a_nil)) a_nil)))) (a_cons (d_tup (a_cons d_str (a_cons (d_tup (a_cons d_int a_nil)) (a_cons (d_tup (a_cons (d_tup (a_cons d_int a_nil)) (a_cons d_int a_nil))) (a_cons (d_tup a_nil) a_nil))))) a_nil))))))) (pg_name (i := 3) sc42.nd rfl (by first | exact Or.inl rfl | exact Or.inr rfl))) (ss_cons (s_own (i := 3) (n_cat (p_var (pv 3)) (PD.pp (PN.pd (n_lst (a_cons (d_tup (a_cons d_str (a_cons (d_tup (a_cons d_int a_nil)) a_nil))) (a_cons (d_tup (a_cons d_int (a_cons (d_tup (a_cons d_int a_nil)) a_nil))) (a_cons (d_tup (a_cons d_str (a_cons (d_tup (a_cons d_int a_nil)) (a_cons d_int a_nil)))) a_nil))))))) (pg_name (i := 3) sc42.nd rfl (by first | exact Or.inl rfl | exact Or.inr rfl))) (ss_cons (s_app (pv 3) (d_tup (a_cons d_str (a_cons (d_tup (a_cons d_int a_nil)) (a_cons (d_tup (a_cons (d_tup (a_cons (d_tup (a_cons d_int a_nil)) (a_cons d_int a_nil))) (a_cons (d_tup (a_cons (d_tup (a_cons d_int a_nil)) (a_cons d_int a_nil))) (a_cons (d_tup (a_cons (d_tup (a_cons d_int a_nil)) (a_cons d_int a_nil))) a_nil)))) a_nil))))) (ss_cons (s_forL 18446744073709551616 PassesOwn.never rfl (i_any_d (d_add (PD.pp (d_var (pv 2))) (PD.pp (d_var (pv 2))))) (fun _ => (g_name (pg_name (i := 4) sc42.nd rfl (by first | exact Or.inl rfl | exact Or.inr rfl)))) (fun _ => (ss_cons (s_asg (d_call (ok__law_any_deed Z) (hr.room.mono (by decide)) rfl Z.g41 Z.F41.kp Z.b41 (sa_feed (pv 1) (sa_d (d_var (pv 4)) sa_nil))) (g_name (pg_name (i := 5) sc42.nd rfl (by first | exact Or.inl rfl | exact Or.inr rfl)))) (ss_cons (s_asg (d_call (ok__law_bent Z 20) (hr.room.mono (by decide)) rfl Z.g36 Z.F36.kp Z.b36 (sa_feed (pv 1) (sa_d (d_var (pv 5)) sa_nil))) (g_name (pg_name (i := 6) sc42.nd rfl (by first | exact Or.inl rfl | exact Or.inr rfl)))) (ss_cons (s_own (i := 3) (n_cat (p_var (pv 3)) (PD.pp (PN.pd (n_lst (a_cons (d_var (pv 5)) (a_cons (d_var (pv 6)) (a_cons (d_call (ok__law_bent Z 20) (hr.room.mono (by decide)) rfl Z.g36 Z.F36.kp Z.b36 (sa_feed (pv 1) (sa_d (d_var (pv 6)) sa_nil))) (a_cons (d_call (ok__law_bent Z 20) (hr.room.mono (by decide)) rfl Z.g36 Z.F36.kp Z.b36 (sa_feed (pv 1) (sa_d (d_var (pv 5)) sa_nil))) (a_cons (PN.pd (n_list1 (by rfl) Z.b_list (PD.pp (d_var (pv 5))))) (a_cons (d_sl (PD.pp (d_var (pv 5))) o_none (o_some (PD.pp (d_neg (PD.pp d_int))))) a_nil)))))))))) (pg_name (i := 3) sc42.nd rfl (by first | exact Or.inl rfl | exact Or.inr rfl))) (ss_one (s_app (pv 3) (by exact (d_add (PD.pp (d_tup (a_cons (d_ix (PD.pp (d_var (pv 2))) (PD.pp (d_call (ok__law_next Z) (hr.room.mono (by decide)) rfl Z.g24 Z.F24.kp Z.b24 (sa_feed (pv 1) (sa_d d_int sa_nil)))) (fun _ _ => rfl)) a_nil))) (PD.pp (d_sl (PD.pp (d_var (pv 5))) (o_some (PD.pp d_int)) o_none))))))))))) (ss_cons (s_frz 3 (s_for PassesOwn.never rfl (i_any_d (d_var (pv 3))) (fun _ => (g_name (pg_name (i := 7) sc42.nd rfl (by first | exact Or.inl rfl | exact Or.inr rfl)))) (fun _ => (ss_cons (s_asg (d_repr hr (by rfl) Z.b_repr (PD.pp (d_var (pv 7)))) (g_name (pg_name (i := 8) sc42.nd rfl (by first | exact Or.inl rfl | exact Or.inr rfl)))) (ss_one (s_if (PW.pt (w_or (t_cmp (op_neP hr.room) od_cmp (PD.pp (d_repr hr (by rfl) Z.b_repr (PD.pp (d_call (ok_is_deed Z) (hr.room.mono (by decide)) rfl Z.g21 Z.F21.kp Z.b21 (sa_d (d_var (pv 7)) sa_nil))))) (PD.pp (d_repr hr (by rfl) Z.b_repr (PD.pp (d_call (ok__law_is_deed Z) (hr.room.mono (by decide)) rfl Z.g39 Z.F39.kp Z.b39 (sa_d (d_var (pv 7)) sa_nil))))) (nomark _)) (w_or1 (t_cmp (op_neP hr.room) od_cmp (PD.pp (d_repr hr (by rfl) Z.b_repr (PD.pp (d_var (pv 7))))) (PD.pp (d_var (pv 8))) (nomark _))))) (ss_one (s_ret d_bl)) ss_nil)))))) (ss_one (s_ret d_bl))))))))), by decide +kernel⟩
theorem law_ok {N : DEnds} (ht : N.rt (.bool true)) {ρ : DEnv} (j : LawJ ρ) : rd_law N ρ := by
  obtain ⟨a0, a2, a3, a4, a5, a6, a7, a8, rfl⟩ := j
  unfold rd_law
  decreasing_tactic
  refine ⟨by show 9 + 3 ≤ sizeLine; decide, ?_⟩
  decreasing_tactic
  refine ⟨by show 12 + 3 ≤ sizeLine; decide, ?_⟩
  decreasing_tactic
  refine ⟨by show 15 < sizeLine; decide, ?_⟩
  decreasing_tactic
  refine ⟨by show 20 ≤ 18446744073709551616; decide, ?_⟩
  decreasing_tactic
  refine for_steps InJ (i := 0) (fun d hd j j0 j1 ρ jj => ?_) ⟨_, _, _, _, _, _, _, rfl, by show 16 ≤ 16 + 7 * 0; decide, fun z hz => md_of (List.all_eq_true.mp (by decide +kernel) z hz)⟩ (fun ρ2 j2 => ?_) (fun d hd ρ P Q m p => m _ p)
  · have j1 : j < 20 := by
      have : j < 0 + 20 := j1
      omega
    have hd : d ∈ wordsD ++ wordsD := hd
    obtain ⟨x, rfl, hx⟩ := words_mem ((List.mem_append.mp hd).elim id id)
    obtain ⟨a0, a4, a5, a6, a7, a8, zs, rfl, lz, hz⟩ := jj
    intro N' hnx hct hrt
    decreasing_tactic
    refine ⟨x, rfl, hx, fun s r hs hr => ?_⟩
    have hm := deed_md hx hs hr
    have hb := hm.bulk
    generalize hds : (PyData.str x :: s :: r) = ds at hm hb
    have l1 : 1 ≤ ds.length := by rw [← hds]; show 1 ≤ r.length + 2; omega
    clear hds hs hr
    have ln := hm.len
    decreasing_tactic
    show spF1 (bentK 19) [.feed, .d (.tuple ds)] _
    refine ⟨0, 5, by omega, by omega, by omega, hm.ok, Nat.le_trans hm.bulk (by decide), hm.depth, fun u u1 u2 u3 => ?_⟩
    decreasing_tactic
    show spF1 (bentK 19) [.feed, .d u] _
    refine ⟨100, 8, by omega, by omega, by omega, u1, by omega, u3, fun v v1 v2 v3 => ?_⟩
    decreasing_tactic
    show spF1 (bentK 19) [.feed, .d (.tuple ds)] _
    refine ⟨0, 5, by omega, by omega, by omega, hm.ok, Nat.le_trans hm.bulk (by decide), hm.depth, fun y y1 y2 y3 => ?_⟩
    decreasing_tactic
    refine ⟨few (by show zs.length + 6 ≤ _; omega), ?_⟩
    decreasing_tactic
    refine i_draw (by decide) (by decide) fun b b0 b1 => ?_
    refine i_pick b0 (by show b < 10; omega) fun w hw => ?_
    obtain ⟨x', rfl, hx'⟩ := words_mem hw
    decreasing_tactic
    have lc : (DL.cutD ds (some 1) none).length ≤ ds.length := cutD_len
    refine ⟨few (by show 1 + (DL.cutD ds (some 1) none).length ≤ _; omega), few (by rw [List.length_append]; show zs.length + 6 + 1 ≤ _; omega), ?_⟩
    refine hnx _ ⟨_, _, _, _, _, _, _, rfl, by rw [List.length_append, List.length_append]; show zs.length + 6 + 1 ≤ _; omega, fun z m => ?_⟩
    have up : ∀ {z : PyData}, Md 0 146 5 z → Md 1000 90000 20 z := fun h => h.mono (by decide) (by decide) (by decide)
    have hm' : Md 0 146 5 (.tuple ds) := hm.mono (by decide) (by decide) (by decide)
    rcases List.mem_append.mp m with m | m
    · rcases List.mem_append.mp m with m | m
      · exact hz z m
      · simp only [List.mem_cons, List.mem_nil_iff, or_false] at m
        rcases m with rfl | rfl | rfl | rfl | rfl | rfl
        · exact up hm'
        · exact ⟨ok_mono (by decide) u1, by omega, by omega⟩
        · exact ⟨ok_mono (by decide) v1, by omega, by omega⟩
        · exact ⟨ok_mono (by decide) y1, by omega, by omega⟩
        · exact up (md_list (k := 4) hm')
        · exact up (md_cut (k := 4) hm')
    · rw [List.mem_singleton.mp m]
      exact up (head_md (word_md hx') (md_cut (k := 4) hm))
  obtain ⟨a0, a4, a5, a6, a7, a8, zs, rfl, lz, hz⟩ := j2
  have lz : zs.length ≤ 16 + 7 * (0 + 20) := lz
  decreasing_tactic
  refine for_keeps LawJ (fun d hd ρ j => ?_) ⟨_, _, _, _, _, _, _, _, rfl⟩ (fun ρ2 j2 => ?_) (fun d hd ρ P Q m p => m _ p)
  rotate_left
  · obtain ⟨a0, a2, a3, a4, a5, a6, a7, a8, rfl⟩ := j2
    decreasing_tactic
    exact ht
  have hd := hz d hd
  obtain ⟨s1, s2, s3⟩ := hd.sh (by decide) (by decide) (by decide)
  obtain ⟨t1, t2, t3⟩ := shown_bl (deedP d)
  have hc : Cd d := hd.mono (by decide) (by decide) (by decide)
  obtain ⟨a0, a2, a3, a4, a5, a6, a7, a8, rfl⟩ := j
  intro N3 hnx3 hct3 hrt3
  decreasing_tactic
  refine ⟨s1, s2, s3, ?_⟩
  decreasing_tactic
  refine ⟨hc, ?_⟩
  decreasing_tactic
  refine ⟨t1, t2, t3, ?_⟩
  decreasing_tactic
  refine ⟨hc, ?_⟩
  decreasing_tactic
  refine ⟨t1, t2, t3, ?_⟩
  decreasing_tactic
  refine ifF (by rw [rep_same rfl]; rfl) ?_
  decreasing_tactic
  refine ⟨s1, s2, s3, ?_⟩
  decreasing_tactic
  refine ifF (by rw [eqv_str]; rfl) ?_
  exact hnx3 _ ⟨_, _, _, _, _, _, _, _, rfl⟩
end
end K62

namespace K62
open PySem PySem.Spec PyProof.Rows L2 GX DL
def lawEnv : DEnv := [none, some SV.feed, none, none, none, none, none, none, none]
theorem lawEnvJ : LawJ lawEnv := ⟨_, _, _, _, _, _, _, _, rfl⟩
theorem lawenv_at {i : Nat} {s : SV} (h : lawEnv[i]? = some (some s)) : i = 1 ∧ s = .feed := by
  match i, h with
  | 0, h => cases h
  | 1, h => cases h; exact ⟨rfl, rfl⟩
  | 2, h => cases h
  | 3, h => cases h
  | 4, h => cases h
  | 5, h => cases h
  | 6, h => cases h
  | 7, h => cases h
  | 8, h => cases h
  | n + 9, h => cases h
section
variable {P : Program} {w : World} {K : PySem.W.Frag} {mg : Str → Option Value} {base : Heap} {Ts : List Addr} {fa : Nat → Addr} {fdd : Nat → FuncData} {ca ta : Nat → Addr}
def spFeed (K : PySem.W.Frag) (Ts : List Addr) : Sp := fun vs H Q _ => ∃ (a : Addr) (ns : List Int), vs = [.ref a] ∧ SqL K H a (ns.map V.int) ∧ NA.Tabs Ts H ∧ ∀ (p q : Addr) (m0 : Int) (ms : List Int) (H' : Hp), H p = none → (∀ b o, H b = some o → b ∉ Ts → H' b = some o) → NA.Tabs Ts H' → H' p = some (.lst (.ref q :: [(0 : Int), 0].map V.int)) → SqL K (hide H' [p]) q ((m0 :: ms).map V.int) → Q (.ref p) H'
def rdFeed : DEnv → (List PyData → Prop) → Prop := (lstN (consA (oD addO (slD (vD 0) noO (someO (cD (.int 63)))) (asL (repN (lstN (consA (cD (.int 0)) nilA)) (b1D int1O (oD eqO (vD 0) (asL (lstN nilA))))))) (consA (cD (.int 0)) (consA (cD (.int 0)) nilA))))
theorem rdFeed_ok {ns : List Int} {R : List PyData → Prop} (h : ∀ (m0 : Int) (ms : List Int), R [.list ((m0 :: ms).map PyData.int), .int 0, .int 0]) : rdFeed [some (.d (.list (ns.map PyData.int)))] R := by
  unfold rdFeed
  (repeat (first | with_reducible refine i_seq ?_ | with_reducible refine i_ret ?_ | with_reducible refine i_retN ?_ | with_reducible refine i_nil ?_ | with_reducible refine i_if ?_ | with_reducible refine i_asg ?_ | with_reducible refine i_own ?_ | with_reducible refine i_for ?_ | with_reducible refine i_forL ?_ | with_reducible refine i_c ?_ | with_reducible refine i_o ?_ | with_reducible refine i_ch ?_ | with_reducible refine i_tr ?_ | with_reducible refine i_tru ?_ | with_reducible refine i_andT ?_ | with_reducible refine i_orT ?_ | with_reducible refine i_notT ?_ | with_reducible refine i_andD ?_ | with_reducible refine i_orD ?_ | with_reducible refine i_notD ?_ | with_reducible refine i_ifD ?_ | with_reducible refine i_isi ?_ | with_reducible refine i_b1 ?_ | with_reducible refine i_m1 ?_ | with_reducible refine i_neg ?_ | with_reducible refine i_call ?_ | with_reducible refine i_dSA ?_ | with_reducible refine i_fnSA ?_ | with_reducible refine i_nilSA ?_ | with_reducible refine i_tup ?_ | with_reducible refine i_lst ?_ | with_reducible refine i_asL ?_ | with_reducible refine i_nilA ?_ | with_reducible refine i_consA ?_ | with_reducible refine i_sl ?_ | with_reducible refine i_slN ?_ | with_reducible refine i_noO ?_ | with_reducible refine i_someO ?_ | with_reducible refine i_rev ?_ | with_reducible refine i_gN ?_ | with_reducible refine i_gC ?_ | with_reducible refine i_gNil ?_ | with_reducible refine i_lc ?_ | with_reducible refine i_lcL ?_ | with_reducible refine i_aa ?_ | with_reducible refine i_tupN ?_ | with_reducible refine i_seqI ?_ | with_reducible refine i_rg1 ?_ | with_reducible refine i_rg2 ?_ | with_reducible refine i_cat ?_ | with_reducible refine i_list1 ?_ | with_reducible refine i_sort ?_ | with_reducible refine i_yes ?_ | with_reducible refine i_onB ?_ | with_reducible refine i_onI ?_ | with_reducible refine i_onS ?_ | with_reducible refine i_onT ?_ | with_reducible refine i_onL ?_ | with_reducible refine i_wT ?_ | with_reducible refine i_wL ?_ | with_reducible refine i_wS ?_ | with_reducible refine i_itT ?_ | with_reducible refine i_itL ?_ | with_reducible refine i_lenT ?_ | with_reducible refine i_lenL ?_ | with_reducible refine i_ix0 ?_ | with_reducible refine i_ix1 ?_ | with_reducible refine i_ix2 ?_ | with_reducible refine i_ix3 ?_ | with_reducible refine i_tuple1L ?_ | with_reducible refine i_tuple1T ?_ | with_reducible refine i_addI ?_ | with_reducible refine i_subI ?_ | with_reducible refine i_ltI ?_ | with_reducible refine i_intB ?_ | with_reducible refine i_s1 ?_ | with_reducible refine i_s2 ?_ | with_reducible refine i_s3 ?_ | with_reducible refine i_sF0 ?_ | with_reducible refine i_sF1 ?_ | with_reducible refine i_tt ?_ | with_reducible refine i_ff ?_ | with_reducible refine i_ntt ?_ | with_reducible refine i_nff ?_ | with_reducible refine i_dict ?_ | with_reducible refine i_rep ?_ | with_reducible refine i_slL ?_ | with_reducible refine i_slT ?_ | with_reducible refine i_newD ?_ | with_reducible refine i_dictO ?_ | with_reducible refine i_call0 ?_ | with_reducible refine i_s00 ?_ | with_reducible refine i_v (by with_unfolding_all rfl) ?_ | with_reducible refine i_vP (by with_unfolding_all rfl) ?_ | with_reducible refine i_vO (by with_unfolding_all rfl) ?_ | with_reducible refine i_feedSA (by with_unfolding_all rfl) ?_ | with_reducible refine i_callL (by with_unfolding_all rfl) ?_ | with_reducible refine i_gT (by with_unfolding_all rfl) ?_ | with_reducible refine i_app (by with_unfolding_all rfl) ?_ | with_reducible refine i_ext (by with_unfolding_all rfl) ?_ | with_reducible refine i_frz (by with_unfolding_all rfl) ?_ | with_reducible refine ifNT (by with_unfolding_all rfl) ?_ | with_reducible refine ifNF (by with_unfolding_all rfl) ?_ | with_reducible refine ifT (by with_unfolding_all rfl) ?_ | with_reducible refine ifF (by with_unfolding_all rfl) ?_ | with_reducible refine i_setD (by with_unfolding_all rfl) ?_ | with_reducible refine i_ixN (by with_unfolding_all rfl) ?_ | with_reducible refine i_inN (by with_unfolding_all rfl) ?_ | with_reducible refine i_sortDO (by with_unfolding_all rfl) ?_ | with_reducible refine i_szL (by with_unfolding_all rfl) ?_ | with_reducible refine i_eq1 (by with_unfolding_all rfl) ?_ | with_reducible refine i_eq2 (by with_unfolding_all rfl) ?_ | with_reducible refine i_in1 (by with_unfolding_all rfl) ?_ | with_reducible refine i_in2 (by with_unfolding_all rfl) ?_ | with_reducible refine i_nin1 (by with_unfolding_all rfl) ?_ | with_reducible refine i_nin2 (by with_unfolding_all rfl) ?_ | with_reducible refine i_catL (by with_unfolding_all rfl) ?_ | with_reducible refine i_catT (by with_unfolding_all rfl) ?_ | with_reducible refine i_rgc (by with_unfolding_all rfl) ?_ | with_reducible refine i_rgl (by with_unfolding_all rfl) ?_))
  refine ⟨by split <;> omega, by split <;> omega, by decide, ?_⟩
  have c : DL.cutD (ns.map PyData.int) none (some 63) = (ns.map PyData.int).take 63 := cutD_to 63
  show (DL.cutD (ns.map PyData.int) none (some 63)).length + _ ≤ sizeLine ∧ _
  rw [c]
  cases ns with
  | nil =>
    refine ⟨by decide, ?_⟩
    (repeat (first | with_reducible refine i_seq ?_ | with_reducible refine i_ret ?_ | with_reducible refine i_retN ?_ | with_reducible refine i_nil ?_ | with_reducible refine i_if ?_ | with_reducible refine i_asg ?_ | with_reducible refine i_own ?_ | with_reducible refine i_for ?_ | with_reducible refine i_forL ?_ | with_reducible refine i_c ?_ | with_reducible refine i_o ?_ | with_reducible refine i_ch ?_ | with_reducible refine i_tr ?_ | with_reducible refine i_tru ?_ | with_reducible refine i_andT ?_ | with_reducible refine i_orT ?_ | with_reducible refine i_notT ?_ | with_reducible refine i_andD ?_ | with_reducible refine i_orD ?_ | with_reducible refine i_notD ?_ | with_reducible refine i_ifD ?_ | with_reducible refine i_isi ?_ | with_reducible refine i_b1 ?_ | with_reducible refine i_m1 ?_ | with_reducible refine i_neg ?_ | with_reducible refine i_call ?_ | with_reducible refine i_dSA ?_ | with_reducible refine i_fnSA ?_ | with_reducible refine i_nilSA ?_ | with_reducible refine i_tup ?_ | with_reducible refine i_lst ?_ | with_reducible refine i_asL ?_ | with_reducible refine i_nilA ?_ | with_reducible refine i_consA ?_ | with_reducible refine i_sl ?_ | with_reducible refine i_slN ?_ | with_reducible refine i_noO ?_ | with_reducible refine i_someO ?_ | with_reducible refine i_rev ?_ | with_reducible refine i_gN ?_ | with_reducible refine i_gC ?_ | with_reducible refine i_gNil ?_ | with_reducible refine i_lc ?_ | with_reducible refine i_lcL ?_ | with_reducible refine i_aa ?_ | with_reducible refine i_tupN ?_ | with_reducible refine i_seqI ?_ | with_reducible refine i_rg1 ?_ | with_reducible refine i_rg2 ?_ | with_reducible refine i_cat ?_ | with_reducible refine i_list1 ?_ | with_reducible refine i_sort ?_ | with_reducible refine i_yes ?_ | with_reducible refine i_onB ?_ | with_reducible refine i_onI ?_ | with_reducible refine i_onS ?_ | with_reducible refine i_onT ?_ | with_reducible refine i_onL ?_ | with_reducible refine i_wT ?_ | with_reducible refine i_wL ?_ | with_reducible refine i_wS ?_ | with_reducible refine i_itT ?_ | with_reducible refine i_itL ?_ | with_reducible refine i_lenT ?_ | with_reducible refine i_lenL ?_ | with_reducible refine i_ix0 ?_ | with_reducible refine i_ix1 ?_ | with_reducible refine i_ix2 ?_ | with_reducible refine i_ix3 ?_ | with_reducible refine i_tuple1L ?_ | with_reducible refine i_tuple1T ?_ | with_reducible refine i_addI ?_ | with_reducible refine i_subI ?_ | with_reducible refine i_ltI ?_ | with_reducible refine i_intB ?_ | with_reducible refine i_s1 ?_ | with_reducible refine i_s2 ?_ | with_reducible refine i_s3 ?_ | with_reducible refine i_sF0 ?_ | with_reducible refine i_sF1 ?_ | with_reducible refine i_tt ?_ | with_reducible refine i_ff ?_ | with_reducible refine i_ntt ?_ | with_reducible refine i_nff ?_ | with_reducible refine i_dict ?_ | with_reducible refine i_rep ?_ | with_reducible refine i_slL ?_ | with_reducible refine i_slT ?_ | with_reducible refine i_newD ?_ | with_reducible refine i_dictO ?_ | with_reducible refine i_call0 ?_ | with_reducible refine i_s00 ?_ | with_reducible refine i_v (by with_unfolding_all rfl) ?_ | with_reducible refine i_vP (by with_unfolding_all rfl) ?_ | with_reducible refine i_vO (by with_unfolding_all rfl) ?_ | with_reducible refine i_feedSA (by with_unfolding_all rfl) ?_ | with_reducible refine i_callL (by with_unfolding_all rfl) ?_ | with_reducible refine i_gT (by with_unfolding_all rfl) ?_ | with_reducible refine i_app (by with_unfolding_all rfl) ?_ | with_reducible refine i_ext (by with_unfolding_all rfl) ?_ | with_reducible refine i_frz (by with_unfolding_all rfl) ?_ | with_reducible refine ifNT (by with_unfolding_all rfl) ?_ | with_reducible refine ifNF (by with_unfolding_all rfl) ?_ | with_reducible refine ifT (by with_unfolding_all rfl) ?_ | with_reducible refine ifF (by with_unfolding_all rfl) ?_ | with_reducible refine i_setD (by with_unfolding_all rfl) ?_ | with_reducible refine i_ixN (by with_unfolding_all rfl) ?_ | with_reducible refine i_inN (by with_unfolding_all rfl) ?_ | with_reducible refine i_sortDO (by with_unfolding_all rfl) ?_ | with_reducible refine i_szL (by with_unfolding_all rfl) ?_ | with_reducible refine i_eq1 (by with_unfolding_all rfl) ?_ | with_reducible refine i_eq2 (by with_unfolding_all rfl) ?_ | with_reducible refine i_in1 (by with_unfolding_all rfl) ?_ | with_reducible refine i_in2 (by with_unfolding_all rfl) ?_ | with_reducible refine i_nin1 (by with_unfolding_all rfl) ?_ | with_reducible refine i_nin2 (by with_unfolding_all rfl) ?_ | with_reducible refine i_catL (by with_unfolding_all rfl) ?_ | with_reducible refine i_catT (by with_unfolding_all rfl) ?_ | with_reducible refine i_rgc (by with_unfolding_all rfl) ?_ | with_reducible refine i_rgl (by with_unfolding_all rfl) ?_))
    exact h 0 []
  | cons n r =>
    have l : ((n :: r).map PyData.int |>.take 63).length ≤ 63 := by rw [List.length_take]; omega
    refine ⟨few (by show _ + 0 ≤ _; omega), ?_⟩
    (repeat (first | with_reducible refine i_seq ?_ | with_reducible refine i_ret ?_ | with_reducible refine i_retN ?_ | with_reducible refine i_nil ?_ | with_reducible refine i_if ?_ | with_reducible refine i_asg ?_ | with_reducible refine i_own ?_ | with_reducible refine i_for ?_ | with_reducible refine i_forL ?_ | with_reducible refine i_c ?_ | with_reducible refine i_o ?_ | with_reducible refine i_ch ?_ | with_reducible refine i_tr ?_ | with_reducible refine i_tru ?_ | with_reducible refine i_andT ?_ | with_reducible refine i_orT ?_ | with_reducible refine i_notT ?_ | with_reducible refine i_andD ?_ | with_reducible refine i_orD ?_ | with_reducible refine i_notD ?_ | with_reducible refine i_ifD ?_ | with_reducible refine i_isi ?_ | with_reducible refine i_b1 ?_ | with_reducible refine i_m1 ?_ | with_reducible refine i_neg ?_ | with_reducible refine i_call ?_ | with_reducible refine i_dSA ?_ | with_reducible refine i_fnSA ?_ | with_reducible refine i_nilSA ?_ | with_reducible refine i_tup ?_ | with_reducible refine i_lst ?_ | with_reducible refine i_asL ?_ | with_reducible refine i_nilA ?_ | with_reducible refine i_consA ?_ | with_reducible refine i_sl ?_ | with_reducible refine i_slN ?_ | with_reducible refine i_noO ?_ | with_reducible refine i_someO ?_ | with_reducible refine i_rev ?_ | with_reducible refine i_gN ?_ | with_reducible refine i_gC ?_ | with_reducible refine i_gNil ?_ | with_reducible refine i_lc ?_ | with_reducible refine i_lcL ?_ | with_reducible refine i_aa ?_ | with_reducible refine i_tupN ?_ | with_reducible refine i_seqI ?_ | with_reducible refine i_rg1 ?_ | with_reducible refine i_rg2 ?_ | with_reducible refine i_cat ?_ | with_reducible refine i_list1 ?_ | with_reducible refine i_sort ?_ | with_reducible refine i_yes ?_ | with_reducible refine i_onB ?_ | with_reducible refine i_onI ?_ | with_reducible refine i_onS ?_ | with_reducible refine i_onT ?_ | with_reducible refine i_onL ?_ | with_reducible refine i_wT ?_ | with_reducible refine i_wL ?_ | with_reducible refine i_wS ?_ | with_reducible refine i_itT ?_ | with_reducible refine i_itL ?_ | with_reducible refine i_lenT ?_ | with_reducible refine i_lenL ?_ | with_reducible refine i_ix0 ?_ | with_reducible refine i_ix1 ?_ | with_reducible refine i_ix2 ?_ | with_reducible refine i_ix3 ?_ | with_reducible refine i_tuple1L ?_ | with_reducible refine i_tuple1T ?_ | with_reducible refine i_addI ?_ | with_reducible refine i_subI ?_ | with_reducible refine i_ltI ?_ | with_reducible refine i_intB ?_ | with_reducible refine i_s1 ?_ | with_reducible refine i_s2 ?_ | with_reducible refine i_s3 ?_ | with_reducible refine i_sF0 ?_ | with_reducible refine i_sF1 ?_ | with_reducible refine i_tt ?_ | with_reducible refine i_ff ?_ | with_reducible refine i_ntt ?_ | with_reducible refine i_nff ?_ | with_reducible refine i_dict ?_ | with_reducible refine i_rep ?_ | with_reducible refine i_slL ?_ | with_reducible refine i_slT ?_ | with_reducible refine i_newD ?_ | with_reducible refine i_dictO ?_ | with_reducible refine i_call0 ?_ | with_reducible refine i_s00 ?_ | with_reducible refine i_v (by with_unfolding_all rfl) ?_ | with_reducible refine i_vP (by with_unfolding_all rfl) ?_ | with_reducible refine i_vO (by with_unfolding_all rfl) ?_ | with_reducible refine i_feedSA (by with_unfolding_all rfl) ?_ | with_reducible refine i_callL (by with_unfolding_all rfl) ?_ | with_reducible refine i_gT (by with_unfolding_all rfl) ?_ | with_reducible refine i_app (by with_unfolding_all rfl) ?_ | with_reducible refine i_ext (by with_unfolding_all rfl) ?_ | with_reducible refine i_frz (by with_unfolding_all rfl) ?_ | with_reducible refine ifNT (by with_unfolding_all rfl) ?_ | with_reducible refine ifNF (by with_unfolding_all rfl) ?_ | with_reducible refine ifT (by with_unfolding_all rfl) ?_ | with_reducible refine ifF (by with_unfolding_all rfl) ?_ | with_reducible refine i_setD (by with_unfolding_all rfl) ?_ | with_reducible refine i_ixN (by with_unfolding_all rfl) ?_ | with_reducible refine i_inN (by with_unfolding_all rfl) ?_ | with_reducible refine i_sortDO (by with_unfolding_all rfl) ?_ | with_reducible refine i_szL (by with_unfolding_all rfl) ?_ | with_reducible refine i_eq1 (by with_unfolding_all rfl) ?_ | with_reducible refine i_eq2 (by with_unfolding_all rfl) ?_ | with_reducible refine i_in1 (by with_unfolding_all rfl) ?_ | with_reducible refine i_in2 (by with_unfolding_all rfl) ?_ | with_reducible refine i_nin1 (by with_unfolding_all rfl) ?_ | with_reducible refine i_nin2 (by with_unfolding_all rfl) ?_ | with_reducible refine i_catL (by with_unfolding_all rfl) ?_ | with_reducible refine i_catT (by with_unfolding_all rfl) ?_ | with_reducible refine i_rgc (by with_unfolding_all rfl) ?_ | with_reducible refine i_rgl (by with_unfolding_all rfl) ?_))
    have e : ((n :: r).map PyData.int).take 63 ++ [] = (n :: r.take 62).map PyData.int := by rw [List.append_nil, ← List.map_take]; rfl
    show R [.list (((n :: r).map PyData.int).take 63 ++ []), .int 0, .int 0]
    rw [e]
    exact h n (r.take 62)
theorem ok_feed (Z : Fx K mg base Ts fa fdd ca ta) : FnOk P w K mg base CX0 2 (fa 23) (fdd 23) p23 (spFeed K Ts) := by
  refine Z.F23.ok sc23 (fun vs H Q E h => ?_) (fun cdv A outer s H vs Q E hr h => ⟨_, PSs.nox (pss_one (ps_ret (show PN _ (cc0 ⟨K, Ts, none, 0, [], 2⟩ H []) _ _ rdFeed from (n_lst (a_cons (d_add (PD.pp (d_sl (PD.pp (d_var (pv 0))) o_none (o_some (PD.pp d_int)))) (PD.pp (PN.pd (n_rep (n_lst (a_cons d_int a_nil)) (PD.pp (d_int1 (by rfl) Z.b_int (PD.pp (d_cmp (op_eqP hr) od_cmp (PD.pp (d_var (pv 0))) (PD.pp (PN.pd (n_lst a_nil))) (nomark _))))))))) (a_cons d_int (a_cons d_int a_nil))))))), ?_⟩)
  · obtain ⟨a, ns, rfl, _⟩ := h
    rfl
  · obtain ⟨a, ns, rfl, sq, tb, q⟩ := h
    have sub0 : Sub H (hide H []) := fun b o x _ => by rw [hide_out (by simp)]; exact x
    have hk : Hk ⟨K, Ts, none, 0, [], 2⟩ [] H := ⟨tb, fun g e => (nomatch e), fun b m => (nomatch m)⟩
    refine ⟨[], _, _, rel_start (N := N23) (ss := [.d (.list (ns.map PyData.int))]) hk (show 0 + _ ≤ LIM by decide +kernel) (.cons (.lst (sub0.sql sq) (NA.dp_ints ns)) .nil), rdFeed_ok (R := fun ds => ∃ (m0 : Int) (ms : List Int), ds = [.list ((m0 :: ms).map PyData.int), .int 0, .int 0]) fun m0 ms => ⟨m0, ms, rfl⟩, ?_⟩
    intro ds hds p vs H' ev np hp dp
    obtain ⟨m0, ms, rfl⟩ := hds
    cases dp with
    | cons d1 dp =>
    cases dp with
    | cons d2 dp =>
    cases dp with
    | cons d3 dp =>
    cases dp
    cases d2
    cases d3
    cases d1 with
    | lst s1 r1 =>
      have e := dps_ints r1
      subst e
      exact q p _ m0 ms H' np (fun b o x nb => ev.keep b o x nb fun z => nomatch z) ev.hk.tab hp s1
def spLaw (K : PySem.W.Frag) (Ts : List Addr) : Sp := fun vs H Q _ => ∃ (a : Addr) (ns : List Int), vs = [.ref a] ∧ SqL K H a (ns.map V.int) ∧ NA.Tabs Ts H ∧ ∀ H', Q (.bl true) H'
theorem ok_law (Z : Fx K mg base Ts fa fdd ca ta) : FnG P w K mg base 23 (fa 42) (fdd 42) p42 (spLaw K Ts) := by
  refine okG Z.F42 Z.c42 sc42 (fun vs H Q E h => ?_) (fun A stack s H vs Q E hr h => ⟨_, PSs.nox (pss_cons (ps_asg (pe_call (ok_feed Z) (hr.room.mono (by decide)) rfl Z.g23 Z.F23.kp Z.b23 .nil pass0 (pa_cons (pv 0) pa_nil)) (pg_name (i := 1) sc42.nd rfl (by first | exact Or.inl rfl | exact Or.inr rfl)))
    (show PSs _ ((defBody s42).drop 1) (fun D σ H' => ∃ (ga sa : Addr) (n0 : Int) (ns : List Int) (H0 : Hp) (F0 : List Addr), tSD ⟨⟨K, Ts, some ga, sa, n0 :: ns, 2⟩, H0, F0, []⟩ cost_law rd_law D σ H') from ⟨fun pins s' σ H' D I ⟨ga, sa, n0, ns, H0, F0, k, F, ρ, N, rel, ht, g⟩ => by
      obtain ⟨κ, runs, le⟩ := dv_law (ga := ga) (sa := sa) (n0 := n0) (ns := ns) (H0 := H0) (F0 := F0) (hs0 := []) Z hr
      exact runs.run pins s' σ H' D I ⟨k, F, ρ, N, rel.le (Nat.add_le_add_right le k), ht, g⟩⟩)), ?_⟩)
  · obtain ⟨a, ns, rfl, _⟩ := h
    rfl
  · obtain ⟨a, ns, rfl, sq, tb, q⟩ := h
    refine ⟨.ref a, rfl, a, ns, rfl, sq, tb, fun p q' m0 ms H' np kp tb' hp sc => ⟨p, q', m0, ms, H', [p], 0, [p], lawEnv, { nx := fun _ => False, rt := fun d => d = .bool true }, ?_, ?_, ?_⟩⟩
    · refine ⟨⟨tb', fun g e => ?_, fun b m => ?_⟩, fun b o x _ _ => x, fun b m => m, fun b m => .inl m, fun i s x => ?_, rfl, fun _ m => (nomatch m), fun i j s t v o1 _ h1 _ _ _ => ?_, ?_⟩
      · cases e
        refine ⟨List.mem_singleton.mpr rfl, [0, 0], hp, rfl, fun c hc => ?_, sc⟩
        simp only [List.mem_cons, List.mem_nil_iff, or_false] at hc
        rcases hc with rfl | rfl <;> exact Int.le_refl _
      · rw [List.mem_singleton.mp m]
        exact .inl ⟨_, hp⟩
      · have at1 : i = 1 ∧ s = .feed := lawenv_at x
        obtain ⟨rfl, rfl⟩ := at1
        exact ⟨.ref p, rfl, p, rfl, rfl⟩
      · have at1 := lawenv_at h1
        rw [at1.2] at o1
        cases o1
      · have e : posOf ⟨K, Ts, some p, q', m0 :: ms, 2⟩ H' = 0 := by
          show (if (2 : Nat) = 2 then posAt (H' p) else 0) = 0
          rw [if_pos rfl, hp]
          rfl
        show posOf ⟨K, Ts, some p, q', m0 :: ms, 2⟩ H' + (cost_law + 0) ≤ LIM
        rw [e]
        decide +kernel
    · exact law_ok rfl lawEnvJ
    · exact ⟨fun _ h => h.elim, fun d h F σ' H' ρ v rel dp => by
        subst h
        cases dp
        exact q H', fun _ h => h.elim, fun _ h => h.elim⟩
end
end K62

namespace K62
open PySem PySem.Spec PyProof.Rows L2 GX DL
section
variable {w : World} {K : PySem.W.Frag} {h : Heap} {mg : Str → Option Value} {x : Str}
theorem there (X : K.In h) (G : h.Ns mainGlobals mg) (c : He.SaysX fts fn [] tf exx w h K) (hx : He.Fa.glo x ∈ fts) : mg x = some (.ref (He.ga K x)) := He.glo_ok X G (c.t.d.facts hx)
theorem bare_ (X : K.In h) (G : h.Ns mainGlobals mg) (c : He.SaysX fts fn [] tf exx w h K) (hx : He.Fa.free x ∈ fts) : mg x = none := He.free_ok X G (c.t.d.facts hx)
def nm (i : Nat) : Str := match i with
  | 1 => "is_whole"
  | 2 => "is_from"
  | 3 => "is_between"
  | 4 => "is_m"
  | 5 => "is_row"
  | 6 => "rise"
  | 7 => "are_rows"
  | 10 => "is_seat"
  | 11 => "is_dot"
  | 12 => "is_name"
  | 13 => "is_thing"
  | 15 => "is_paper_row"
  | 16 => "is_paper"
  | 18 => "are_dots"
  | 19 => "names_letter"
  | 20 => "is_what"
  | 21 => "is_deed"
  | 23 => "_law_feed"
  | 24 => "_law_next"
  | 25 => "_law_is_whole"
  | 26 => "_law_is_seat"
  | 27 => "_law_is_dot"
  | 28 => "_law_is_name"
  | 29 => "_law_is_thing"
  | 30 => "_law_is_m"
  | 31 => "_law_are_rising"
  | 32 => "_law_any_seat"
  | 33 => "_law_any_m"
  | 34 => "_law_any_dots"
  | 35 => "_law_any_thing"
  | 36 => "_law_bent"
  | 37 => "_law_is_paper"
  | 38 => "_law_is_rest"
  | 39 => "_law_is_deed"
  | 40 => "_law_any_paper"
  | 41 => "_law_any_deed"
  | 42 => "law"
  | _ => "law"
theorem facts {l : PySem.W.OpenLaw} {f : Addr} (X : K.In h) (G : h.Ns mainGlobals mg) (hfa : mg ("law" : Str) = some (.ref f)) (c : He.SaysX fts fn [] tf exx w h K) : LawG l w K 23 63 "_law_script" mg f h := by
  cases hfa.symm.trans (there X G c (x := "law") (by simp [fts]))
  obtain ⟨fd1, F1⟩ := c.t.d.def_ 0 (d := mkD "is_whole" s1) rfl
  obtain ⟨fd2, F2⟩ := c.t.d.def_ 1 (d := mkD "is_from" s2) rfl
  obtain ⟨fd3, F3⟩ := c.t.d.def_ 2 (d := mkD "is_between" s3) rfl
  obtain ⟨fd4, F4⟩ := c.t.d.def_ 3 (d := mkD "is_m" s4) rfl
  obtain ⟨fd5, F5⟩ := c.t.d.def_ 4 (d := mkD "is_row" s5) rfl
  obtain ⟨fd6, F6⟩ := c.t.d.def_ 5 (d := mkD "rise" s6) rfl
  obtain ⟨fd7, F7⟩ := c.t.d.def_ 6 (d := mkD "are_rows" s7) rfl
  obtain ⟨fd10, F10⟩ := c.t.d.def_ 7 (d := mkD "is_seat" s10) rfl
  obtain ⟨fd11, F11⟩ := c.t.d.def_ 8 (d := mkD "is_dot" s11) rfl
  obtain ⟨fd12, F12⟩ := c.t.d.def_ 9 (d := mkD "is_name" s12) rfl
  obtain ⟨fd13, F13⟩ := c.t.d.def_ 10 (d := mkD "is_thing" s13) rfl
  obtain ⟨fd15, F15⟩ := c.t.d.def_ 11 (d := mkD "is_paper_row" s15) rfl
  obtain ⟨fd16, F16⟩ := c.t.d.def_ 12 (d := mkD "is_paper" s16) rfl
  obtain ⟨fd18, F18⟩ := c.t.d.def_ 13 (d := mkD "are_dots" s18) rfl
  obtain ⟨fd19, F19⟩ := c.t.d.def_ 14 (d := mkD "names_letter" s19) rfl
  obtain ⟨fd20, F20⟩ := c.t.d.def_ 15 (d := mkD "is_what" s20) rfl
  obtain ⟨fd21, F21⟩ := c.t.d.def_ 16 (d := mkD "is_deed" s21) rfl
  obtain ⟨fd23, F23⟩ := c.t.d.def_ 17 (d := mkD "_law_feed" s23) rfl
  obtain ⟨fd24, F24⟩ := c.t.d.def_ 18 (d := mkD "_law_next" s24) rfl
  obtain ⟨fd25, F25⟩ := c.t.d.def_ 19 (d := mkD "_law_is_whole" s25) rfl
  obtain ⟨fd26, F26⟩ := c.t.d.def_ 20 (d := mkD "_law_is_seat" s26) rfl
  obtain ⟨fd27, F27⟩ := c.t.d.def_ 21 (d := mkD "_law_is_dot" s27) rfl
  obtain ⟨fd28, F28⟩ := c.t.d.def_ 22 (d := mkD "_law_is_name" s28) rfl
  obtain ⟨fd29, F29⟩ := c.t.d.def_ 23 (d := mkD "_law_is_thing" s29) rfl
  obtain ⟨fd30, F30⟩ := c.t.d.def_ 24 (d := mkD "_law_is_m" s30) rfl
  obtain ⟨fd31, F31⟩ := c.t.d.def_ 25 (d := mkD "_law_are_rising" s31) rfl
  obtain ⟨fd32, F32⟩ := c.t.d.def_ 26 (d := mkD "_law_any_seat" s32) rfl
  obtain ⟨fd33, F33⟩ := c.t.d.def_ 27 (d := mkD "_law_any_m" s33) rfl
  obtain ⟨fd34, F34⟩ := c.t.d.def_ 28 (d := mkD "_law_any_dots" s34) rfl
  obtain ⟨fd35, F35⟩ := c.t.d.def_ 29 (d := mkD "_law_any_thing" s35) rfl
  obtain ⟨fd36, F36⟩ := c.t.d.def_ 30 (d := mkD "_law_bent" s36) rfl
  obtain ⟨fd37, F37⟩ := c.t.d.def_ 31 (d := mkD "_law_is_paper" s37) rfl
  obtain ⟨fd38, F38⟩ := c.t.d.def_ 32 (d := mkD "_law_is_rest" s38) rfl
  obtain ⟨fd39, F39⟩ := c.t.d.def_ 33 (d := mkD "_law_is_deed" s39) rfl
  obtain ⟨fd40, F40⟩ := c.t.d.def_ 34 (d := mkD "_law_any_paper" s40) rfl
  obtain ⟨fd41, F41⟩ := c.t.d.def_ 35 (d := mkD "_law_any_deed" s41) rfl
  obtain ⟨fd42, F42⟩ := c.t.d.def_ 36 (d := mkD "law" s42) rfl
  have b := FunD.bindsA (ps := ["_law_script"]) F42 fun _ _ _ _ _ _ us hl => match us, hl with | [_], _ => rfl
  refine ⟨fd42, tf.map (He.cT K), spLaw K (tf.map fun p => (He.cT K p).2), ⟨fun p hp => ?_, fun s v => b s [v] rfl⟩, fun H a ns _ hT hS => ?_, fun base hTB => ?_⟩
  · obtain ⟨q, hq, rfl⟩ := List.mem_map.mp hp
    exact ⟨c.empty _ hq, c.out _ hq, PySem.W.codeHd_of_K X (c.hd _ hq)⟩
  · refine ⟨a, ns, rfl, hS, fun T hT' => ?_, fun _ => rfl⟩
    obtain ⟨q, hq, rfl⟩ := List.mem_map.mp hT'
    exact ⟨#[], hT _ (List.mem_map.mpr ⟨q, hq, rfl⟩), True.intro⟩
  · have Z : Fx K mg base (tf.map fun p => (He.cT K p).2) (fun i => He.ga K (nm i)) (fun i => match i with | 1 => fd1 | 2 => fd2 | 3 => fd3 | 4 => fd4 | 5 => fd5 | 6 => fd6 | 7 => fd7 | 10 => fd10 | 11 => fd11 | 12 => fd12 | 13 => fd13 | 15 => fd15 | 16 => fd16 | 18 => fd18 | 19 => fd19 | 20 => fd20 | 21 => fd21 | 23 => fd23 | 24 => fd24 | 25 => fd25 | 26 => fd26 | 27 => fd27 | 28 => fd28 | 29 => fd29 | 30 => fd30 | 31 => fd31 | 32 => fd32 | 33 => fd33 | 34 => fd34 | 35 => fd35 | 36 => fd36 | 37 => fd37 | 38 => fd38 | 39 => fd39 | 40 => fd40 | 41 => fd41 | 42 => fd42 | _ => fd42) (fun i => (He.cT K (nm i, none)).1) (fun i => (He.cT K (nm i, none)).2) := by
      exact ⟨F1, there X G c (x := "is_whole") (by simp [fts]), code_of (p := ("is_whole", none)) F1, F2, there X G c (x := "is_from") (by simp [fts]), code_of (p := ("is_from", none)) F2, F3, there X G c (x := "is_between") (by simp [fts]), code_of (p := ("is_between", none)) F3, F4, there X G c (x := "is_m") (by simp [fts]), code_of (p := ("is_m", none)) F4, F5, there X G c (x := "is_row") (by simp [fts]), code_of (p := ("is_row", none)) F5, F6, there X G c (x := "rise") (by simp [fts]), code_of (p := ("rise", none)) F6, hTB _ (List.mem_map.mpr ⟨("rise", none), by simp [tf], rfl⟩), List.mem_map.mpr ⟨("rise", none), by simp [tf], rfl⟩, F7, there X G c (x := "are_rows") (by simp [fts]), code_of (p := ("are_rows", none)) F7, hTB _ (List.mem_map.mpr ⟨("are_rows", none), by simp [tf], rfl⟩), List.mem_map.mpr ⟨("are_rows", none), by simp [tf], rfl⟩, F10, there X G c (x := "is_seat") (by simp [fts]), code_of (p := ("is_seat", none)) F10, hTB _ (List.mem_map.mpr ⟨("is_seat", none), by simp [tf], rfl⟩), List.mem_map.mpr ⟨("is_seat", none), by simp [tf], rfl⟩, F11, there X G c (x := "is_dot") (by simp [fts]), code_of (p := ("is_dot", none)) F11, F12, there X G c (x := "is_name") (by simp [fts]), code_of (p := ("is_name", none)) F12, hTB _ (List.mem_map.mpr ⟨("is_name", none), by simp [tf], rfl⟩), List.mem_map.mpr ⟨("is_name", none), by simp [tf], rfl⟩, F13, there X G c (x := "is_thing") (by simp [fts]), code_of (p := ("is_thing", none)) F13, F15, there X G c (x := "is_paper_row") (by simp [fts]), code_of (p := ("is_paper_row", none)) F15, F16, there X G c (x := "is_paper") (by simp [fts]), code_of (p := ("is_paper", none)) F16, F18, there X G c (x := "are_dots") (by simp [fts]), code_of (p := ("are_dots", none)) F18, hTB _ (List.mem_map.mpr ⟨("are_dots", none), by simp [tf], rfl⟩), List.mem_map.mpr ⟨("are_dots", none), by simp [tf], rfl⟩, F19, there X G c (x := "names_letter") (by simp [fts]), code_of (p := ("names_letter", none)) F19, F20, there X G c (x := "is_what") (by simp [fts]), code_of (p := ("is_what", none)) F20, F21, there X G c (x := "is_deed") (by simp [fts]), code_of (p := ("is_deed", none)) F21, F23, there X G c (x := "_law_feed") (by simp [fts]), code_of (p := ("_law_feed", none)) F23, F24, there X G c (x := "_law_next") (by simp [fts]), code_of (p := ("_law_next", none)) F24, F25, there X G c (x := "_law_is_whole") (by simp [fts]), code_of (p := ("_law_is_whole", none)) F25, F26, there X G c (x := "_law_is_seat") (by simp [fts]), code_of (p := ("_law_is_seat", none)) F26, F27, there X G c (x := "_law_is_dot") (by simp [fts]), code_of (p := ("_law_is_dot", none)) F27, F28, there X G c (x := "_law_is_name") (by simp [fts]), code_of (p := ("_law_is_name", none)) F28, F29, there X G c (x := "_law_is_thing") (by simp [fts]), code_of (p := ("_law_is_thing", none)) F29, F30, there X G c (x := "_law_is_m") (by simp [fts]), code_of (p := ("_law_is_m", none)) F30, F31, there X G c (x := "_law_are_rising") (by simp [fts]), code_of (p := ("_law_are_rising", none)) F31, F32, there X G c (x := "_law_any_seat") (by simp [fts]), code_of (p := ("_law_any_seat", none)) F32, F33, there X G c (x := "_law_any_m") (by simp [fts]), code_of (p := ("_law_any_m", none)) F33, F34, there X G c (x := "_law_any_dots") (by simp [fts]), code_of (p := ("_law_any_dots", none)) F34, F35, there X G c (x := "_law_any_thing") (by simp [fts]), code_of (p := ("_law_any_thing", none)) F35, F36, there X G c (x := "_law_bent") (by simp [fts]), code_of (p := ("_law_bent", none)) F36, F37, there X G c (x := "_law_is_paper") (by simp [fts]), code_of (p := ("_law_is_paper", none)) F37, F38, there X G c (x := "_law_is_rest") (by simp [fts]), code_of (p := ("_law_is_rest", none)) F38, F39, there X G c (x := "_law_is_deed") (by simp [fts]), code_of (p := ("_law_is_deed", none)) F39, F40, there X G c (x := "_law_any_paper") (by simp [fts]), code_of (p := ("_law_any_paper", none)) F40, F41, there X G c (x := "_law_any_deed") (by simp [fts]), code_of (p := ("_law_any_deed", none)) F41, F42, there X G c (x := "law") (by simp [fts]), code_of (p := ("law", none)) F42, bare_ X G c (by simp [fts]), bare_ X G c (by simp [fts]), bare_ X G c (by simp [fts]), bare_ X G c (by simp [fts]), bare_ X G c (by simp [fts]), bare_ X G c (by simp [fts]), bare_ X G c (by simp [fts]), bare_ X G c (by simp [fts]), bare_ X G c (by simp [fts]), bare_ X G c (by simp [fts]), bare_ X G c (by simp [fts]), He.str_ok X G (c.t.d.facts (by simp [fts]))⟩
    exact ok_law Z
end
end K62
open PySem PySem.W PySem.Calls PyProof.Rows
theorem PySem.Challenge.cw_gonemarks_k62_what_is_a_deed_holds : PySem.Challenge.rw_gonemarks_k62_what_is_a_deed.Holds := by
  w_on; o_law
  refine HandSHeadRun.head_any (r := OpenLaw.row PySem.Challenge.rw_gonemarks_k62_what_is_a_deed) (q := view (OpenLaw.row PySem.Challenge.rw_gonemarks_k62_what_is_a_deed).prog [42]) (H := K62.hk) (ob := K62.ob) (M := 2000) (loose := K62.loose) (d := HandSHeadRun.topDef (OpenLaw.row PySem.Challenge.rw_gonemarks_k62_what_is_a_deed).prog 42) (kwd := []) K62.ob_eq
    (by kernel_rfl) (fun s => by kernel_rfl) K62.run (by kernel_rfl) (by kernel_rfl) (by kernel_rfl) (by rfl) (by first | assumption | decide +kernel) (by decide +kernel) ⟨rfl, rfl, rfl, rfl, rfl, by decide +kernel⟩ ?hw ?hc
  case hw => w_witness2
  case hc =>
    refine GX.walkG (l := PySem.Challenge.rw_gonemarks_k62_what_is_a_deed) (n := 63) (k := 23) (x := "_law_script") rfl (by decide) (by kernel_rfl) ⟨rfl, by decide, by decide⟩ ?F
    intro w mg fa h Y G hmg0
    obtain ⟨K, KX, c⟩ := Y
    have hmg : mg ("law" : PySem.Str) = some (.ref fa) := by
      have e : (HandSHeadRun.topDef (OpenLaw.row PySem.Challenge.rw_gonemarks_k62_what_is_a_deed).prog 42).name = ("law" : PySem.Str) := by kernel_rfl
      rw [← e]
      exact hmg0
    exact ⟨K, KX, K62.facts KX G hmg c⟩
#print axioms PySem.Challenge.cw_gonemarks_k62_what_is_a_deed_holds
