import PyProof.Rows.All
import Wide.All
import OpenK.AllK
import Wide.FinOn
import HandS.ForMost
import HandS.GenList
import HandS.AnyAll
import PyProof.TupleOfGen
import KE.GoesMore
import HandS.Zip
import HandS.Walk
import HandS.EndTab
import HandS.Style
import HandS.IsInst
import HandS.Evl
import HandS.More
import PySem.Challenge.RW_bendtables_k16_least_places_step_right
set_option Elab.async false
set_option linter.all false
set_option maxRecDepth 100000
set_option maxHeartbeats 4000000
namespace BT
open PySem PySem.Spec PyProof.Rows L2 GenW

theorem over_lp {A : Around} {G : Expr} {el it0 tg : Expr} {fs : List Expr} {sc : Scope} {po : Pos} {i a : Value} {env : Env} (hG : G = .GeneratorExp el [⟨tg, it0, fs, 0⟩] sc po) :
    A.over (.compLoop G 0 i a env) [] = A.deeper env := by
  subst hG
  rfl
theorem over_st {A : Around} {G : Expr} {el it0 tg : Expr} {fs : List Expr} {sc : Scope} {po : Pos} {i a : Value} {env : Env} (hG : G = .GeneratorExp el [⟨tg, it0, fs, 0⟩] sc po) :
    A.over (.compStart G 0 i a env) [] = A.deeper env := by
  subst hG
  rfl

/-- the context of a generator expression's element -/
def gxc (X : Cx) (N : List Str) (cenv : Env) (A : Around) (sc : Shared) (H : Hp) (ex : List Addr) (pn : List (Addr × Obj)) : Cx where
  prog := X.prog
  w := X.w
  K := X.K
  mg := X.mg
  base := X.base
  A := A.deeper cenv
  N := N
  s_0 := sc
  H_0 := H
  env := cenv
  outer := X.stack
  stack := cenv :: X.stack
  ex := ex
  fn := fun x => cenv.scope.names.lookup x == some .cell
  calm := true
  pn := pn
  xe := fun _ _ => False

/-- names: js tells for each name of the element's frame the slot of the def around, or none -/
structure GxOk (XN : List Str) (xs : Scope) (N : List Str) (js : List (Option Nat)) (scope : Scope) : Prop where
  kind : scope.kind = .function
  co : scope.isCoroutine = false
  nodup : (scope.names.map (·.1)).Nodup
  dot : scope.names.lookup (".0" : Str) = some NameKind.local
  len : js.length = N.length
  cap : ∀ i j : Nat, js[i]? = some (some j) → ∃ x : Str, N[i]? = some x ∧ XN[j]? = some x ∧ scope.names.lookup x = some .free ∧ xs.names.lookup x = some .cell
  fre : ∀ y ∈ scope.names, y.2 = .free → xs.names.lookup y.1 = some .cell

def gxC (XN : List Str) (xs : Scope) (N : List Str) (js : List (Option Nat)) (scope : Scope) : Bool :=
  (scope.kind == .function) && !scope.isCoroutine && decide ((scope.names.map (·.1)).Nodup) && (scope.names.lookup (".0" : Str) == some NameKind.local) && (js.length == N.length) &&
  (List.range js.length).all (fun i => match js[i]? with
    | some (some j) => match N[i]? with
      | some x => (XN[j]? == some x) && (scope.names.lookup x == some .free) && (xs.names.lookup x == some .cell)
      | none => false
    | _ => true) &&
  scope.names.all (fun y => !(y.2 == .free) || (xs.names.lookup y.1 == some .cell))
theorem gxOk_by {XN : List Str} {xs : Scope} {N : List Str} {js : List (Option Nat)} {scope : Scope} (h : gxC XN xs N js scope = true) : GxOk XN xs N js scope := by
  unfold gxC at h
  simp only [Bool.and_eq_true, beq_iff_eq, List.all_eq_true, Bool.not_eq_true', List.mem_range, Bool.or_eq_true, decide_eq_true_eq] at h
  obtain ⟨⟨⟨⟨⟨⟨h1, h2⟩, h3⟩, h4⟩, h5⟩, h6⟩, h7⟩ := h
  refine ⟨h1, h2, h3, h4, h5, fun i j e => ?_, fun y hy e => ?_⟩
  · have q := h6 i (List.getElem?_eq_some_iff.mp e).1
    rw [e] at q
    cases hN : N[i]? with
    | none => simp [hN] at q
    | some x =>
      simp only [hN, Bool.and_eq_true, beq_iff_eq] at q
      exact ⟨x, rfl, q.1.1, q.1.2, q.2⟩
  · rcases h7 y hy with q | q
    · rw [e] at q
      exact absurd q (by decide)
    · exact q
/-- the slots at the frame's beginning -/
def capt (σ : L2.St) (js : List (Option Nat)) : L2.St := js.map fun o => o.bind fun j => (σ[j]?).join
def Le (σ σ' : L2.St) : Prop := σ'.length = σ.length ∧ ∀ (i : Nat) v, σ[i]? = some (some v) → σ'[i]? = some (some v)
theorem Le.refl (σ : L2.St) : Le σ σ := ⟨rfl, fun _ _ e => e⟩
theorem Le.trans {a b c : L2.St} (x : Le a b) (y : Le b c) : Le a c := ⟨y.1.trans x.1, fun i v e => y.2 i v (x.2 i v e)⟩
theorem Le.set {σ : L2.St} {i : Nat} {v : Option V} (h : σ[i]? = some none) : Le σ (σ.set i v) := by
  refine ⟨by simp, fun j w e => ?_⟩
  by_cases hj : i = j
  · subst hj
    rw [h] at e
    cases e
  · rw [List.getElem?_set_ne hj]
    exact e

/-- the consumer's own objects at B bear what came out -/
structure Cons (B : List Addr) (Cr : List V → Heap → Prop) : Prop where
  obj : ∀ ys h, Cr ys h → ∀ b ∈ B, ∃ o, h.get? b = some o ∧ ∀ v, o.data ≠ .cell v
  keep : ∀ ys h h', Cr ys h → (∀ b ∈ B, ∀ o, h.get? b = some o → h'.get? b = some o) → Cr ys h'
def pinsOf (B : List Addr) (h : Heap) : List (Addr × Obj) := B.filterMap fun b => (h.get? b).map fun o => (b, o)
theorem mem_pinsOf {B : List Addr} {h : Heap} {p : Addr × Obj} (hp : p ∈ pinsOf B h) : p.1 ∈ B ∧ h.get? p.1 = some p.2 := by
  obtain ⟨b, hb, e⟩ := List.mem_filterMap.mp hp
  cases q : h.get? b with
  | none => rw [q] at e; cases e
  | some o =>
    rw [q] at e
    cases e
    exact ⟨hb, q⟩
theorem pinsOf_mem {B : List Addr} {h : Heap} {b : Addr} {o : Obj} (hb : b ∈ B) (e : h.get? b = some o) : (b, o) ∈ pinsOf B h :=
  List.mem_filterMap.mpr ⟨b, hb, by rw [e]; rfl⟩

def Abs (X : Cx) (H1 : Hp) (sc : Shared) (ex B : List Addr) (H : Hp) (s : Shared) : Prop :=
  s.os = sc.os ∧ AllBare s.gens ∧ Un (frs X.stack) ex H1 H sc.heap s.heap ∧ HOk X.prog X.w H s.heap ∧ ∀ b ∈ B, H b = none
def YG (X : Cx) (H1 : Hp) (sc : Shared) (ex B : List Addr) (Cr : List V → Heap → Prop) (W : List V → Hp → Prop) (Out : List V → V → Hp → Prop) (a : Addr) (g : Nat) : Protocol := fun n s₀ v s1 kap =>
  ∃ ys y H, n + 1 + ys.length = sizeLine ∧ RelV y v ∧ Out ys y H ∧ Cr ys s1.heap ∧ Abs X H1 sc ex B H s1 ∧ s1.heap.NoLimit ∧ s1.heap.IsGen a g ∧
    ∀ s', W (ys ++ [y]) H → Cr (ys ++ [y]) s'.heap → s'.os = sc.os → AllBare s'.gens → (∀ b o, b ∉ B → s1.heap.get? b = some o → s'.heap.get? b = some o) → kap (.send .none) s'
def RG (X : Cx) (H1 : Hp) (sc : Shared) (ex B : List Addr) (Cr : List V → Heap → Prop) (Fin : List V → Hp → Prop) : GenEnd := fun n s₀ r s1 =>
  r = .ok .next ∧ ∃ ys H, ys.length ≤ sizeLine ∧ Fin ys H ∧ Cr ys s1.heap ∧ Abs X H1 sc ex B H s1

/-- the turns -/
def GStep (J : It) (g : TG) (te : TE) (σg : L2.St) (W Fin : List V → Hp → Prop) (Out : List V → V → Hp → Prop) : Prop :=
  ∀ ys H, W ys H → (J.stop ys.length H ∧ Fin ys H) ∨ (J.go ys.length H ∧ ∀ x H', J.yld ys.length H x H' → g x σg H' fun σ2 H2 => Le σg σ2 ∧ te σ2 H2 fun y H3 => ys.length < sizeLine ∧ Out ys y H3)

section
variable {X : Cx} {N : List Str} {scope : Scope} {C bi : Addr} {cl : List (Str × Addr)} {code : Value} {A : Around} {sc : Shared} {H1 : Hp} {fp B : List Addr} {a : Addr} {gn : Nat} {go : Obj}
  {elt tg iter : Expr} {pos : Pos} {J : It} {it : Addr} {tn : Nat → Heap → Prop} {g : TG} {te : TE} {σg : L2.St} {W Fin : List V → Hp → Prop} {Out : List V → V → Hp → Prop} {Cr : List V → Heap → Prop}

theorem gloop (hco : scope.isCoroutine = false) (hgo : ∀ h : Heap, h.get? a = some go → h.IsGen a gn) (T : Turn X.prog X.w X.K tg J fp it tn) (CB : Cons B Cr) (hB : ∀ b ∈ B, sc.heap.objs.size ≤ b ∧ b ≠ C ∧ b ≠ a ∧ (∀ x c, cl.lookup x = some c → c ≠ b) ∧ b ∉ fp)
    (hg : PG (gxc X N (genEnv scope cl C code bi X.env) A sc H1 fp [(a, go)]) tg g) (he : PE (gxc X N (genEnv scope cl C code bi X.env) A sc H1 fp [(a, go)]) elt te) (step : GStep J g te σg W Fin Out) :
    ∀ (m : Nat) (ys : List V) (s₀ s : Shared) (H : Hp), m + ys.length = sizeLine → W ys H → Cr ys s.heap → Inv (gxc X N (genEnv scope cl C code bi X.env) A sc H1 fp [(a, go)]) (pinsOf B s.heap) σg H s →
      (∀ b ∈ fp, FpOk (gxc X N (genEnv scope cl C code bi X.env) A sc H1 fp [(a, go)]) (pinsOf B s.heap) H b) → tn ys.length s.heap →
      Seg (model X.prog X.w) A (RG X H1 sc fp B Cr Fin) (YG X H1 sc fp B Cr W Out a gn) m s₀ (.compLoop (.GeneratorExp elt [⟨tg, iter, [], 0⟩] scope pos) 0 (.ref it) .none (genEnv scope cl C code bi X.env))
        ((model X.prog X.w).den (.compLoop (.GeneratorExp elt [⟨tg, iter, [], 0⟩] scope pos) 0 (.ref it) .none (genEnv scope cl C code bi X.env))) [] s := by
  intro m
  induction m using Nat.strongRecOn with
  | ind m ih =>
  intro ys s₀ s H hm hW hCr I hF ht
  have absOf : ∀ {pins : List (Addr × Obj)} {σ : L2.St} {H' : Hp} {s' : Shared}, (∀ b ∈ B, ∃ o, (b, o) ∈ pins) → Inv (gxc X N (genEnv scope cl C code bi X.env) A sc H1 fp [(a, go)]) pins σ H' s' → Abs X H1 sc fp B H' s' :=
    fun {pins σ H' s'} hp J' => ⟨J'.os, J'.bare, J'.base, J'.hok, fun b hb => by
      obtain ⟨o, ho⟩ := hp b hb
      exact (J'.pin (b, o) (List.mem_append_right _ ho)).2.1⟩
  have pinB : ∀ b ∈ B, ∃ o, (b, o) ∈ pinsOf B s.heap := fun b hb => by
    obtain ⟨o, ho, _⟩ := CB.obj ys _ hCr b hb
    exact ⟨o, pinsOf_mem hb ho⟩
  have crOf : ∀ {σ : L2.St} {H' : Hp} {s' : Shared}, Inv (gxc X N (genEnv scope cl C code bi X.env) A sc H1 fp [(a, go)]) (pinsOf B s.heap) σ H' s' → Cr ys s'.heap := fun {σ H' s'} J' =>
    CB.keep ys _ _ hCr fun b hb o ho => (J'.pin (b, o) (List.mem_append_right _ (pinsOf_mem hb ho))).1
  show Seg _ A _ _ _ s₀ _ ((compTurn (.GeneratorExp elt [⟨tg, iter, [], 0⟩] scope pos) 0 (.ref it) .none (genEnv scope cl C code bi X.env)).onRaise (leaving _)) [] s
  rw [compTurn_gen, Sem.onRaise_eq_wrap]
  refine seg_bind_wrap (wpAny_standAt (seg_bind_wrap ?_))
  rw [over_lp rfl]
  rcases step ys H hW with ⟨hs, hfin⟩ | ⟨hgo', hgo2⟩
  · refine wpAny_mono (T.done (gxc X N (genEnv scope cl C code bi X.env) A sc H1 fp [(a, go)]) rfl rfl rfl rfl ys.length _ s σg H (fun _ _ => False) I hF ht hs) (fun r s1 h1 => ?_) fun _ _ z => z.elim
    obtain ⟨rfl, I1⟩ := h1
    exact seg_end (.ok .next) ⟨rfl, ys, H, by omega, hfin, crOf I1, absOf pinB I1⟩
  · refine wpAny_mono (T.item (gxc X N (genEnv scope cl C code bi X.env) A sc H1 fp [(a, go)]) rfl rfl rfl rfl ys.length _ s σg H (fun _ _ => False) I hF ht hgo') (fun r s1 h1 => ?_) fun _ _ z => z.elim
    obtain ⟨u, rfl, h1⟩ := h1
    refine seg_bind_wrap ?_
    rw [over_lp rfl]
    refine wpAny_mono h1 (fun _ s2 h2 => ?_) fun _ _ z => z.elim
    obtain ⟨x, H2, I2, rx, hy, ht2, hF2⟩ := h2
    have objF := T.obj _ _ ht2
    have I3 : Inv (gxc X N (genEnv scope cl C code bi X.env) A sc H1 fp [(a, go)]) (pinsOf B s.heap ++ pinsOf fp s2.heap) σg H2 s2 := I2.pins_of fun p hp => by
      rcases List.mem_append.mp hp with z | z
      · exact I2.pin p (List.mem_append_right _ z)
      · obtain ⟨z1, z2⟩ := mem_pinsOf z
        obtain ⟨_, f1, f2, _, _, _⟩ := hF p.1 z1
        obtain ⟨o, ho, hd⟩ := objF p.1 z1
        rw [ho] at z2
        cases z2
        exact ⟨ho, hF2 _ z1, f1, f2, hd⟩
    refine seg_bind_wrap ?_
    rw [over_lp rfl]
    refine wpAny_mono (hg.run _ s2 σg H2 x u _ I3 rx (hgo2 x H2 hy)) (fun _ s3 h3 => ?_) fun _ _ z => z.elim
    obtain ⟨σ3, H3, J3, le3, q3⟩ := h3
    simp only [List.forIn_nil]
    refine seg_bind_wrap (wpAny_pure ?_)
    simp only [if_true]
    have hyo : ∀ v, yieldOut (genEnv scope cl C code bi X.env) v = yieldValue v := fun v => by
      unfold yieldOut
      rw [show (genEnv scope cl C code bi X.env).scope.isCoroutine = false from hco]
      rfl
    simp only [hyo]
    rw [Sem.bind_eq_wrap', Sem.bind_eq_wrap', Sem.wrap_wrap, Sem.wrap_wrap]
    refine seg_wrap ?_
    rw [over_lp rfl]
    refine wpAny_mono (he.run _ s3 σ3 H3 _ J3 q3) (fun yv s4 h4 => ?_) fun _ _ z => z.elim
    obtain ⟨y, H4, J4, ry, hlt, hout⟩ := h4
    obtain ⟨m', rfl⟩ : ∃ m', m = m' + 1 := ⟨m - 1, by omega⟩
    have inL : ∀ {p : Addr × Obj}, p ∈ pinsOf B s.heap → p ∈ [(a, go)] ++ (pinsOf B s.heap ++ pinsOf fp s2.heap) := fun z => List.mem_append_right _ (List.mem_append_left _ z)
    have inR : ∀ {p : Addr × Obj}, p ∈ pinsOf fp s2.heap → p ∈ [(a, go)] ++ (pinsOf B s.heap ++ pinsOf fp s2.heap) := fun z => List.mem_append_right _ (List.mem_append_right _ z)
    have cr4 : Cr ys s4.heap := CB.keep ys _ _ hCr fun b hb o ho => (J4.pin (b, o) (inL (pinsOf_mem hb ho))).1
    have fpk : ∀ b ∈ fp, ∀ o, s2.heap.get? b = some o → s4.heap.get? b = some o := fun b hb o ho => (J4.pin (b, o) (inR (pinsOf_mem hb ho))).1
    have ht4 : tn (ys.length + 1) s4.heap := T.keep _ _ _ ht2 fpk
    have B4 : ∀ b ∈ B, H4 b = none ∧ b ≠ C ∧ b ∉ frs X.stack := fun b hb => by
      obtain ⟨o, ho⟩ := pinB b hb
      obtain ⟨_, q1, q2, q3, _⟩ := J4.pin (b, o) (inL ho)
      exact ⟨q1, q2, q3⟩
    have F4 : ∀ b ∈ fp, H4 b = none := fun b hb => by
      obtain ⟨o, ho, _⟩ := objF b hb
      exact (J4.pin (b, o) (inR (pinsOf_mem hb ho))).2.1
    refine seg_at (seg_yield rfl rfl rfl ⟨ys, y, H4, by omega, ry, hout, cr4, ⟨J4.os, J4.bare, J4.base, J4.hok, fun b hb => (B4 b hb).1⟩, J4.nolimit, hgo _ (J4.pin (a, go) (List.mem_append_left _ (List.mem_singleton.mpr rfl))).1, fun s5 hW5 hC5 ho5 hb5 hk5 => ?_⟩)
    have J4' : Inv (gxc X N (genEnv scope cl C code bi X.env) A sc H1 fp [(a, go)]) [] σg H4 s4 := (J4.weak le3.1.symm le3.2).pins_of fun p hp => by cases hp
    have nB : ∀ b u, H4 b = some u → b ∉ B := fun b u e hb => by
      rw [(B4 b hb).1] at e
      cases e
    have hok5 : HOk X.prog X.w H4 s5.heap := fun b u e => (J4'.hok b u e).stay (fun c v hc q => hk5 c v (by
        rcases hc with z | z
        · rw [z]; exact nB b u e
        · exact nB c _ z) q) (fun _ q => q) fun _ _ q => q
    have J5 : Inv (gxc X N (genEnv scope cl C code bi X.env) A sc H1 fp [(a, go)]) [] σg H4 s5 := J4'.call' (ch := B) (ho5.trans J4'.os.symm)
      ⟨fun b o e n _ hx => hk5 b o hx e, fun b o e n _ hx => ⟨o.slots, hk5 b o hx e⟩, fun b o e n _ => n, fun b o e hx => ⟨o, hk5 b o hx e⟩, fun _ _ q => q, fun _ _ _ q => q, fun b ps q => ⟨#[], by rw [q]; simp⟩⟩ hok5 hb5
      fun b hb => ⟨.inr (hB b hb).1, (hB b hb).2.1, (hB b hb).2.2.2.1, fun p hp => by
        rcases List.mem_append.mp hp with z | z
        · rw [List.mem_singleton.mp z]
          exact Ne.symm (hB b hb).2.2.1
        · cases z⟩
    have J6 : Inv (gxc X N (genEnv scope cl C code bi X.env) A sc H1 fp [(a, go)]) (pinsOf B s5.heap) σg H4 s5 := J5.pins_of fun p hp => by
      obtain ⟨z1, z2⟩ := mem_pinsOf hp
      obtain ⟨o, ho, hd⟩ := CB.obj _ _ hC5 p.1 z1
      rw [ho] at z2
      cases z2
      exact ⟨ho, (B4 _ z1).1, (B4 _ z1).2.1, (B4 _ z1).2.2, hd⟩
    have hl5 : (ys ++ [y]).length = ys.length + 1 := by simp
    refine seg_again rfl (ih m' (by omega) (ys ++ [y]) s5 s5 H4 (by omega) hW5 hC5 J6 (fun b hb => ?_) ?_)
    · obtain ⟨_, f1, f2, f3, f4, f5⟩ := hF b hb
      refine ⟨F4 b hb, f1, f2, f3, f4, fun p hp => ?_⟩
      rcases List.mem_append.mp hp with z | z
      · exact f5 p (List.mem_append_left _ z)
      · obtain ⟨z1, _⟩ := mem_pinsOf z
        exact fun z => (hB p.1 z1).2.2.2.2 (by rw [z]; exact hb)
    · rw [hl5]
      exact T.keep _ _ _ ht4 fun b hb o e => hk5 b o (fun hb2 => (hB b hb2).2.2.2.2 hb) e
end
end BT

namespace BT
open PySem PySem.Spec PyProof.Rows L2 GenW
abbrev TabB := @GxR.TabB
abbrev TabG := @GxR.TabG
abbrev Tabbed := @GxR.Tabbed

/-- a generator of an expression that has not begun -/
def GM (X : Cx) (k : Nat) (H1 : Hp) (sc : Shared) (ex : List Addr) (W Fin : List V → Hp → Prop) (Out : List V → V → Hp → Prop) (u : Value) (s' : Shared) : Prop :=
  ∃ (a : Addr) (g : Nat) (c : Code), u = .ref a ∧ sc.heap.objs.size ≤ a ∧ a < s'.heap.objs.size ∧ s'.heap.IsGen a g ∧ s'.gens[g]? = some (.fresh c) ∧ s'.os = sc.os ∧ AllBare s'.gens ∧ s'.heap.NoLimit ∧ (∀ b o, sc.heap.get? b = some o → s'.heap.get? b = some o) ∧ W [] H1 ∧
    ∀ (A : Around) (B : List Addr) (Cr : List V → Heap → Prop) (s2 : Shared), Room (k + 1) A → A.frames = some X.stack → Cons B Cr → (∀ b ∈ B, s'.heap.objs.size ≤ b) → (∀ b o, s'.heap.get? b = some o → s2.heap.get? b = some o) → Cr [] s2.heap → s2.os = sc.os → AllBare s2.gens →
      Seg (model X.prog X.w) A (RG X H1 sc ex B Cr Fin) (YG X H1 sc ex B Cr W Out a g) sizeLine s2 c ((model X.prog X.w).den c) [] s2

/-! ### the frame's own cells -/
theorem cellsFrom_app : ∀ (names : List (Str × NameKind)) (n : Nat) (acc : List (Str × Addr)), cellsFrom n names acc = cellsFrom n names [] ++ acc
  | [], _, _ => rfl
  | (x, k) :: r, n, acc => by
    unfold cellsFrom
    split
    · rw [cellsFrom_app r (n + 1) ((x, n) :: acc), cellsFrom_app r (n + 1) [(x, n)], List.append_assoc]
      rfl
    · exact cellsFrom_app r n acc
theorem cellsFrom_name : ∀ {names : List (Str × NameKind)} {n : Nat} {acc : List (Str × Addr)} {x : Str} {c : Addr}, (x, c) ∈ cellsFrom n names acc → (x, c) ∈ acc ∨ (x, NameKind.cell) ∈ names
  | [], _, _, _, _, h => .inl h
  | (y, k) :: r, n, acc, x, c, h => by
    unfold cellsFrom at h
    split at h
    · rename_i hk
      rcases cellsFrom_name h with z | z
      · rcases List.mem_cons.mp z with e | z
        · cases e
          exact .inr (by rw [show k = NameKind.cell by simpa using hk]; exact List.mem_cons_self)
        · exact .inl z
      · exact .inr (List.mem_cons_of_mem _ z)
    · rcases cellsFrom_name h with z | z
      · exact .inl z
      · exact .inr (List.mem_cons_of_mem _ z)
theorem nodup_val {α : Type} : ∀ {l : List (Str × α)} {x : Str} {a b : α}, (l.map (·.1)).Nodup → (x, a) ∈ l → (x, b) ∈ l → a = b
  | (y, v) :: r, x, a, b, h, h1, h2 => by
    obtain ⟨n1, n2⟩ := List.nodup_cons.mp h
    rcases List.mem_cons.mp h1 with e1 | e1 <;> rcases List.mem_cons.mp h2 with e2 | e2
    · cases e1; cases e2; rfl
    · cases e1
      exact absurd (List.mem_map.mpr ⟨_, e2, rfl⟩) n1
    · cases e2
      exact absurd (List.mem_map.mpr ⟨_, e1, rfl⟩) n1
    · exact nodup_val n2 e1 e2
section
variable {M : Model} {A : Around} {E : Value → Shared → Prop} {s : Shared}
theorem newEnvG {scope : Scope} {globals bi : Addr} {cl : List (Str × Addr)} {qual : Str} {code it : Value} {Q : Env → Shared → Prop} (hk : scope.kind = .function) (h0 : scope.names.lookup (".0" : Str) = some NameKind.local)
    (hQ : ∀ (h' : Heap) (tk : Nat), h'.Ns s.heap.objs.size (fun y => if y = ".0" then some it else none) → (∀ b o, s.heap.get? b = some o → h'.get? b = some o) → s.heap.objs.size < h'.objs.size →
      (∀ n c, (n, c) ∈ cellsFrom (s.heap.objs.size + 1) scope.names [] → h'.IsCell c none ∧ s.heap.objs.size + 1 ≤ c) → ((cellsFrom (s.heap.objs.size + 1) scope.names []).Pairwise fun x y => x.2 ≠ y.2) →
      Q (newEnv scope s.heap.objs.size globals (cellsFrom (s.heap.objs.size + 1) scope.names cl) qual none code none bi) { s with heap := h', toks := tk }) :
    wpAny M A (newFunctionEnv scope globals cl [(".0", it)] qual none code none bi) Q E s := by
  simp only [newFunctionEnv, Option.isSome_none, Bool.false_eq_true, if_false]
  refine wpAny_bind (wpAny_alloc ?_)
  refine wpAny_bind (wpAny_layCells _ (fun name kind cells => by cases hkc : kind == NameKind.cell <;> simp [hkc]) _ _ _ _ ?_)
  have hz : (s.heap.push { cls := .type "frame", data := .dict #[] }).objs.size = s.heap.objs.size + 1 := Heap.size_push ..
  have ok := cellsFrom_ok scope.names (s.heap.push { cls := .type "frame", data := .dict #[] }) (s.heap.objs.size + 1) [] ⟨fun _ _ hm => (nomatch hm), List.Pairwise.nil⟩ (by rw [hz]; exact Nat.le_refl _)
  rw [hz] at ok
  rw [show ({ s with heap := s.heap.push { cls := .type "frame", data := .dict #[] } } : Shared).heap.objs.size = s.heap.objs.size + 1 from hz]
  rw [List.forIn_cons]
  refine wpAny_bind (wpAny_bind (wpAny_bind ?_))
  have ns1 := (Heap.Ns.new s.heap (.type "frame")).keeps (pushCells_keeps scope.names (s.heap.push { cls := .type "frame", data := .dict #[] }))
  refine wpAny_storeName_local (env := newEnv scope s.heap.objs.size globals (cellsFrom (s.heap.objs.size + 1) scope.names cl) qual none code none bi) h0 ns1 (fun h' hn' hs' => ?_) (by show (scope.kind == .class || (scope.kind == .module && _)) = false; rw [hk]; rfl)
  refine wpAny_pure ?_
  dsimp only
  rw [List.forIn_nil]
  refine wpAny_pure (wpAny_pure (hQ h' _ ?_ (fun b o e => ?_) ?_ (fun n c hm => ?_) ok.apart))
  · have e : (fun y : Str => if y = (".0" : Str) then some it else (fun _ => none) y) = fun y : Str => if y = (".0" : Str) then some it else none := rfl
    exact hn'
  · exact hs'.extBut b o (Nat.ne_of_lt (Heap.lt_size e)) (pushCells_keeps _ _ b o (Heap.get?_push_of_some _ e))
  · exact hn'.lt
  · obtain ⟨o1, o2⟩ := ok.empty n c hm
    exact ⟨o1.sameBut hs' (Nat.ne_of_gt o2), o2⟩
theorem gxMake {env : Env} {elt target iter : Expr} {ifs : List Expr} {scope : Scope} {cl : List (Str × Addr)} {pos : Pos} {Q : Value → Shared → Prop}
    (hco : scope.isCoroutine = false) (hclos : closureFor scope env = pure cl) (h0 : scope.names.lookup (".0" : Str) = some NameKind.local) (hkind : scope.kind = .function) (hroom : A.depth < recursionLimit)
    (h : wpAny M A (eval iter env) (fun xv s₁ => wpAny M A (pyIter xv) (fun it s₂ => s₂.heap.NoLimit ∧
      wpAny M A (genexprCode env pos (env.qual ++ "<genexpr>") scope) (fun code s₃ => wpAny M A (builtinsFor env.globals env.builtins) (fun bi s₄ =>
        ∀ (h' : Heap) (tk : Nat), h'.Ns s₄.heap.objs.size (fun y => if y = ".0" then some it else none) → (∀ b o, s₄.heap.get? b = some o → h'.get? b = some o) → s₄.heap.objs.size < h'.objs.size →
          (∀ n c, (n, c) ∈ cellsFrom (s₄.heap.objs.size + 1) scope.names [] → h'.IsCell c none ∧ s₄.heap.objs.size + 1 ≤ c) → ((cellsFrom (s₄.heap.objs.size + 1) scope.names []).Pairwise fun x y => x.2 ≠ y.2) →
          Q (.ref h'.objs.size) { s₄ with
            gens := s₄.gens.push (.fresh (.compStart (.GeneratorExp elt [⟨target, iter, ifs, 0⟩] scope pos) 0 it .none (genEnv scope (cellsFrom (s₄.heap.objs.size + 1) scope.names cl) s₄.heap.objs.size code bi env))),
            toks := tk + 1 + 1,
            heap := h'.push { cls := .type "generator", data := .fields #[.int s₄.gens.size 0, .str "<genexpr>" tk, .str (env.qual ++ "<genexpr>") (tk + 1)] } }) E s₃) E s₂) E s₁) E s)
    (hs : ∀ x, genFold iter env x = pure x) :
    wpAny M A (eval (.GeneratorExp elt [⟨target, iter, ifs, 0⟩] scope pos) env) Q E s := by
  rw [eval_GeneratorExp1 _ _ _ _ _ _ _ hco, hclos]
  refine wpAny_bind (wpAny_mono h (fun xv s₁ h₁ => wpAny_bind (wpAny_standAt (wpAny_bind (wpAny_of_eq (hs xv) ?_)))) fun _ _ e => e)
  refine wpAny_bind (wpAny_holding (wpAny_mono h₁ (fun it s₂ h₂ => wpAny_bind (wpAny_enterFrame h₂.1 hroom (wpAny_bind (wpAny_pure ?_)))) fun _ _ e => e))
  refine wpAny_bind (wpAny_mono h₂.2 (fun code s₃ h₃ => wpAny_bind (wpAny_mono h₃ (fun bi s₄ h₄ => ?_) fun _ _ e => e)) fun _ _ e => e)
  refine wpAny_bind (newEnvG hkind h0 fun h' tk a1 a2 a3 a4 a5 => ?_)
  simp only [newGenerator, newFields]
  refine wpAny_bind (wpAny_newGen (wpAny_bind (wpAny_mkText (wpAny_bind (wpAny_mkText (wpAny_newObj_type ?_ (by size_fits)))))))
  exact h₄ h' tk a1 a2 a3 a4 a5
end

section
variable {X : Cx} {pins : List (Addr × Obj)} {σ : L2.St} {H : Hp} {s : Shared}
/-- the cells of the frame: those of the def around, then its own -/
abbrev gcl (X : Cx) (scope : Scope) (C : Addr) : List (Str × Addr) := cellsFrom (C + 1) scope.names (cloFrom X.env.cells scope.names [])
theorem gcl_mem {scope : Scope} {C : Addr} {x : Str} {c : Addr} (hfre : ∀ y ∈ scope.names, y.2 = .free → X.env.scope.names.lookup y.1 = some .cell) (I : Inv X pins σ H s) (e : (gcl X scope C).lookup x = some c) :
    ((x, NameKind.free) ∈ scope.names ∧ X.env.cells.lookup x = some c) ∨ ((x, NameKind.cell) ∈ scope.names ∧ (x, c) ∈ cellsFrom (C + 1) scope.names []) := by
  have hm := PySem.mem_of_lookup e
  rw [gcl, cellsFrom_app] at hm
  rcases List.mem_append.mp hm with z | z
  · rcases cellsFrom_name z with y | y
    · cases y
    · exact .inr ⟨y, z⟩
  · rcases cloFrom_mem z with y | ⟨y1, y2⟩
    · cases y
    · obtain ⟨c', hc'⟩ := I.ok.has x (.inl (hfre _ y1 rfl))
      rw [hc'] at y2
      exact .inl ⟨y1, by rw [hc', show c = c' from y2]⟩
theorem gcl_has {scope : Scope} {C : Addr} {x : Str} (h : scope.names.lookup x = some .free ∨ scope.names.lookup x = some .cell) : ∃ c, (gcl X scope C).lookup x = some c := by
  rcases h with h | h
  · exact mem_lookup (cells_acc (cloFrom_has (PySem.mem_of_lookup h)))
  · obtain ⟨c, hc⟩ := cells_has (n := C + 1) (acc := cloFrom X.env.cells scope.names []) (PySem.mem_of_lookup h)
    exact mem_lookup hc
/-- the frame of the element at its beginning -/
theorem inv_gx {N : List Str} {js : List (Option Nat)} {scope : Scope} {A : Around} {C bi : Addr} {code : Value} {fp B : List Addr} {a : Addr} {go : Obj} {s2 : Shared} {m : Str → Option Value} (ok : GxOk X.N X.env.scope N js scope) (I : Inv X pins σ H s) (hfr : A.frames = some X.stack) (hh : A.handled = none)
    (hC : s.heap.objs.size ≤ C) (hbi : bi = builtinsNs) (hfp : ∀ b ∈ fp, FpOk X pins H b ∧ b < s.heap.objs.size) (hk : ∀ b o, s.heap.get? b = some o → s2.heap.get? b = some o) (hns : s2.heap.Ns C m) (hos : s2.os = s.os) (hb : AllBare s2.gens)
    (hcel : ∀ n c, (n, c) ∈ cellsFrom (C + 1) scope.names [] → s2.heap.IsCell c none ∧ C + 1 ≤ c) (hapt : (cellsFrom (C + 1) scope.names []).Pairwise fun x y => x.2 ≠ y.2)
    (haC : a ≠ C) (ha : s.heap.objs.size ≤ a) (hga : s2.heap.get? a = some go) (hgd : ∀ v, go.data ≠ .cell v) (hB : ∀ b ∈ B, s.heap.objs.size ≤ b ∧ b ≠ C ∧ ∃ o, s2.heap.get? b = some o ∧ ∀ v, o.data ≠ .cell v) :
    Inv (gxc X N (genEnv scope (gcl X scope C) C code bi X.env) A s H fp [(a, go)]) (pinsOf B s2.heap) (capt σ js) H s2 := by
  have cases_ : ∀ x c, (gcl X scope C).lookup x = some c → ((x, NameKind.free) ∈ scope.names ∧ X.env.cells.lookup x = some c) ∨ ((x, NameKind.cell) ∈ scope.names ∧ (x, c) ∈ cellsFrom (C + 1) scope.names []) := fun x c e => gcl_mem ok.fre I e
  have clt : ∀ x c, X.env.cells.lookup x = some c → c < s.heap.objs.size := fun x c e => by
    obtain ⟨v, o, ho, _⟩ := I.cell x c e
    exact Heap.lt_size ho
  have yng : ∀ b, s.heap.objs.size ≤ b → b ∉ frs X.stack := fun b hb z => by
    rcases List.mem_cons.mp (I.stkSub b z) with z | z
    · rw [z] at hb
      exact absurd (Nat.lt_of_lt_of_le I.lt hb) (Nat.lt_irrefl _)
    · exact I.nofs hb z
  have okX : (gxc X N (genEnv scope (gcl X scope C) C code bi X.env) A s H fp [(a, go)]).Ok := by
    refine ⟨I.ok.mod, ok.kind, I.ok.glob, hbi, hC, fun x y c h1 h2 => ?_, fun x hx => ?_, fun x c hf e => ?_, fun _ => hh, Around.frames_deeper hfr, .inr ⟨rfl, rfl⟩, fun b hb => ⟨?_, fun x c e => ?_⟩, I.bs, Nat.le_trans I.ok.bsz I.sz, fun b o e hb => ?_, fun b hb hb2 => ?_, I.stack, I.stkFree⟩
    · rcases cases_ x c h1 with ⟨_, z1⟩ | ⟨_, z1⟩ <;> rcases cases_ y c h2 with ⟨_, z2⟩ | ⟨_, z2⟩
      · exact I.ok.inj x y c z1 z2
      · have q1 := clt x c z1
        have q2 := (hcel _ _ z2).2
        exact absurd (Nat.lt_of_lt_of_le q1 hC) (Nat.not_lt_of_le (Nat.le_of_succ_le q2))
      · have q1 := clt y c z2
        have q2 := (hcel _ _ z1).2
        exact absurd (Nat.lt_of_lt_of_le q1 hC) (Nat.not_lt_of_le (Nat.le_of_succ_le q2))
      · exact name_of_addr hapt z1 z2
    · rcases hx with hx | hx
      · exact gcl_has (.inr hx)
      · exact gcl_has (.inl hx)
    · have hf' : (scope.names.lookup x == some NameKind.cell) = true := hf
      have hf2 : scope.names.lookup x = some NameKind.cell := by simpa using hf'
      rcases cases_ x c e with ⟨z, _⟩ | ⟨_, z⟩
      · have q1 := nodup_val ok.nodup z (PySem.mem_of_lookup hf2)
        cases q1
      · exact Nat.le_trans hC (Nat.le_of_succ_le (hcel _ _ z).2)
    · exact Nat.ne_of_lt (Nat.lt_of_lt_of_le (hfp b hb).2 hC)
    · rcases cases_ x c e with ⟨_, z⟩ | ⟨_, z⟩
      · exact (hfp b hb).1.2.2.2.2.1 x c z
      · exact Nat.ne_of_gt (Nat.lt_of_lt_of_le (hfp b hb).2 (Nat.le_trans hC (Nat.le_of_succ_le (hcel _ _ z).2)))
    · obtain ⟨⟨_, f1, f2, f3, _, _⟩, _⟩ := hfp b hb
      rcases f3 with z | z
      · exact I.ok.noex b o e z
      · have q := Heap.lt_size (I.ok.bs b o e).1
        exact absurd (Nat.lt_of_lt_of_le q z) (Nat.lt_irrefl _)
    · obtain ⟨⟨_, f1, f2, _, _, _⟩, _⟩ := hfp b hb
      rcases List.mem_cons.mp (I.stkSub b hb2) with z | z
      · exact f1 z
      · exact f2 z
  refine ⟨okX, hos, hb, Un.kept hk, ⟨m, hns, fun i x v e1 e2 e3 => ?_⟩, fun x c e => ?_, I.hok.fresh hC, fun x c e => ?_, fun p hp => ?_, I.hok.kept hk, ?_⟩
  · unfold capt at e2
    rw [List.getElem?_map] at e2
    cases hj : js[i]? with
    | none => rw [hj] at e2; cases e2
    | some o =>
      rw [hj] at e2
      cases o with
      | none => cases e2
      | some j =>
        obtain ⟨y, n1, n2, n3, n4⟩ := ok.cap i j hj
        have ey : y = x := Option.some.inj (n1.symm.trans e1)
        subst ey
        have e4 : (σ[j]?).join = some v := Option.some.inj e2
        have e5 : σ[j]? = some (some v) := by
          cases hs : σ[j]? with
          | none => rw [hs] at e4; cases e4
          | some w => rw [hs] at e4; cases e4; rfl
        obtain ⟨m0, _, hl⟩ := I.loc
        obtain ⟨u, ru, lk⟩ := hl j y v n2 e5 (.inr (.inl n4))
        refine ⟨u, ru, .inr ⟨.inr n3, ?_⟩⟩
        obtain ⟨c, hc⟩ := gcl_has (X := X) (C := C) (.inl n3)
        have hcx : X.env.cells.lookup y = some c := by
          rcases cases_ y c hc with ⟨_, z⟩ | ⟨z, _⟩
          · exact z
          · have q1 := nodup_val ok.nodup z (PySem.mem_of_lookup n3)
            cases q1
        rcases lk with ⟨q, _⟩ | ⟨_, c', hc', hcell⟩
        · have q' : X.env.scope.names.lookup y = some .local := q
          rw [n4] at q'
          cases q'
        · have ec : c = c' := Option.some.inj (hcx.symm.trans hc')
          obtain ⟨o, ho, hd⟩ := hcell
          exact ⟨c, hc, o, hk _ _ (by rw [ec]; exact ho), hd⟩
  · rcases cases_ x c e with ⟨_, z⟩ | ⟨_, z⟩
    · obtain ⟨v, o, ho, hd⟩ := I.cell x c z
      exact ⟨v, o, hk _ _ ho, hd⟩
    · exact ⟨none, (hcel _ _ z).1⟩
  · rcases cases_ x c e with ⟨_, z⟩ | ⟨_, z⟩
    · exact I.freeC x c z
    · exact I.hok.fresh (Nat.le_trans hC (Nat.le_of_succ_le (hcel _ _ z).2))
  · rcases List.mem_append.mp hp with z | z
    · rw [List.mem_singleton.mp z]
      exact ⟨hga, I.hok.fresh ha, haC, yng a ha, hgd⟩
    · obtain ⟨z1, z2⟩ := mem_pinsOf z
      obtain ⟨b1, b2, o, b3, b4⟩ := hB p.1 z1
      rw [b3] at z2
      cases z2
      exact ⟨b3, I.hok.fresh b1, b2, yng _ b1, b4⟩
  · show (capt σ js).length = N.length
    unfold capt
    rw [List.length_map, ok.len]

/-- from the start -/
theorem gstart {scope : Scope} {C bi : Addr} {cl : List (Str × Addr)} {code : Value} {A : Around} {sc : Shared} {H1 : Hp} {fp B : List Addr} {a : Addr} {gn : Nat}
    {elt tg iter : Expr} {pos : Pos} {J : It} {it : Addr} {tn : Nat → Heap → Prop} {W Fin : List V → Hp → Prop} {Out : List V → V → Hp → Prop} {Cr : List V → Heap → Prop} {s₀ s2 : Shared}
    (T : Turn X.prog X.w X.K tg J fp it tn) (ht : tn 0 s2.heap)
    (loop : Seg (model X.prog X.w) A (RG X H1 sc fp B Cr Fin) (YG X H1 sc fp B Cr W Out a gn) sizeLine s₀ (.compLoop (.GeneratorExp elt [⟨tg, iter, [], 0⟩] scope pos) 0 (.ref it) .none (genEnv scope cl C code bi X.env))
        ((model X.prog X.w).den (.compLoop (.GeneratorExp elt [⟨tg, iter, [], 0⟩] scope pos) 0 (.ref it) .none (genEnv scope cl C code bi X.env))) [] s2) :
    Seg (model X.prog X.w) A (RG X H1 sc fp B Cr Fin) (YG X H1 sc fp B Cr W Out a gn) sizeLine s₀ (.compStart (.GeneratorExp elt [⟨tg, iter, [], 0⟩] scope pos) 0 (.ref it) .none (genEnv scope cl C code bi X.env))
        ((model X.prog X.w).den (.compStart (.GeneratorExp elt [⟨tg, iter, [], 0⟩] scope pos) 0 (.ref it) .none (genEnv scope cl C code bi X.env))) [] s2 := by
  show Seg _ A _ _ _ s₀ _ ((compStart (.GeneratorExp elt [⟨tg, iter, [], 0⟩] scope pos) 0 (.ref it) .none (genEnv scope cl C code bi X.env)).onRaise (leaving _)) [] s2
  unfold compStart
  rw [Sem.onRaise_eq_wrap]
  show Seg _ A _ _ _ s₀ _ ((ask >>= _).wrap _ _ _ _) [] s2
  refine seg_bind_wrap (wpAny_askSetting ?_)
  split
  · exact seg_again rfl loop
  · refine seg_bind_wrap (wpAny_rule ?_)
    show Seg _ A _ _ _ s₀ _ ((standAt iter.pos >>= _).wrap _ _ _ _) [] s2
    exact seg_bind_wrap (wpAny_standAt (seg_bind_wrap (T.self _ 0 s2 _ _ ht (seg_again rfl loop))))

theorem gx_eval {k : Nat} {c P : Addr} {N : List Str} {js : List (Option Nat)} {scope : Scope} {elt tg iter : Expr} {gpos : Pos} {wi : TI} {g : TG} {te : TE} {Q' : Value → Shared → Prop} {Rc : Hp → (List V → Hp → Prop) → (List V → Hp → Prop) → (List V → V → Hp → Prop) → Prop}
    (hr : Room (k + 1) X.A) (TB : TabB X.base X.mg c P) (hcode : X.env.code = .ref c) (ok : GxOk X.N X.env.scope N js scope) (hi : PI X tg iter wi) (hs : ∀ v, genFold iter X.env v = pure v)
    (hg : ∀ A C code bi cl sc H fp pn, Room k (A.deeper (genEnv scope cl C code bi X.env)) → PG (gxc X N (genEnv scope cl C code bi X.env) A sc H fp pn) tg g)
    (he : ∀ A C code bi cl sc H fp pn, Room k (A.deeper (genEnv scope cl C code bi X.env)) → PE (gxc X N (genEnv scope cl C code bi X.env) A sc H fp pn) elt te)
    (I : Inv X pins σ H s) (h : wi σ H fun J H1 => TabG H1 P ∧ ∀ H2, Tabbed P H1 H2 → ∃ W Fin Out, W [] H2 ∧ GStep J g te (capt σ js) W Fin Out ∧ Rc H2 W Fin Out)
    (hQ : ∀ H2 sc fp W Fin Out u s', Inv X pins σ H2 sc → ExOk X pins fp → Rc H2 W Fin Out → GM X k H2 sc fp W Fin Out u s' → Q' u s') :
    wpAny (model X.prog X.w) X.A (eval (.GeneratorExp elt [⟨tg, iter, [], 0⟩] scope gpos) X.env) Q' X.xe s := by
  refine gxMake ok.co (closure_ok fun y hy e => I.ok.has y.1 (.inl (ok.fre y hy e))) ok.dot ok.kind (by have := hr.dp; omega) ?_ hs
  refine thn (hi.run pins s σ H _ I h) fun xv s1 h1 => thn h1 fun itv s2 h2 => ?_
  obtain ⟨it, fp, tn, J, H1, rfl, I2, T, ht, hF, ⟨ps, hP, htr⟩, hR⟩ := h2
  refine ⟨I2.nolimit, ?_⟩
  have hPs : s2.heap.get? P = some { cls := .none, data := .fields ps } := I2.hok P _ hP
  have hcP : cStatics ≠ P := fun e => by
    obtain ⟨_, hns, _⟩ := I2.nolimit
    obtain ⟨o', es, ep, ho, hd, _⟩ := hns
    rw [e, hPs] at ho
    cases ho
    cases hd
  have cd : PySem.W.CodeHd s2.heap c P := TB.code.keeps fun b u e => I2.bk b u e
  have objF := T.obj _ _ ht
  have fpne : ∀ b ∈ fp, b ≠ P := fun b hb z => by
    have q := (hF b hb).1
    rw [z, hP] at q
    cases q
  have cont : ∀ (code : Value) (h3 : Heap) (tk : Nat) (more : Array Value), Heap.ExtBut P s2.heap h3 → h3.get? P = some { cls := .none, data := .fields (ps ++ more) } → TriplesOk (ps ++ more).toList →
      wpAny (model X.prog X.w) X.A (builtinsFor X.env.globals X.env.builtins) (fun bi s₄ =>
        ∀ (h' : Heap) (tk : Nat), h'.Ns s₄.heap.objs.size (fun y => if y = ".0" then some (Value.ref it) else none) → (∀ b o, s₄.heap.get? b = some o → h'.get? b = some o) → s₄.heap.objs.size < h'.objs.size →
          (∀ n c, (n, c) ∈ cellsFrom (s₄.heap.objs.size + 1) scope.names [] → h'.IsCell c none ∧ s₄.heap.objs.size + 1 ≤ c) → ((cellsFrom (s₄.heap.objs.size + 1) scope.names []).Pairwise fun x y => x.2 ≠ y.2) →
          Q' (.ref h'.objs.size) { s₄ with
            gens := s₄.gens.push (.fresh (.compStart (.GeneratorExp elt [⟨tg, iter, [], 0⟩] scope gpos) 0 (.ref it) .none (genEnv scope (gcl X scope s₄.heap.objs.size) s₄.heap.objs.size code bi X.env))),
            toks := tk + 1 + 1,
            heap := h'.push { cls := .type "generator", data := .fields #[.int s₄.gens.size 0, .str "<genexpr>" tk, .str (X.env.qual ++ "<genexpr>") (tk + 1)] } }) X.xe { s2 with heap := h3, toks := tk } := by
    intro code h3 tk more hx hP3 htr3
    obtain ⟨bm, ob, e1, e2, e3, e4, e5, e6, e7, e8⟩ := TB.bm
    have keep3 : ∀ b u, b ≠ P → s2.heap.get? b = some u → h3.get? b = some u := fun b u hb e => hx b u hb e
    have J3 : Inv X pins σ (upd H1 P (.tbl (ps ++ more))) { s2 with heap := h3, gens := s2.gens, drawn := s2.drawn, toks := tk } := GxR.inv_tab (more := more) (g' := s2.gens) (d' := s2.drawn) (t' := tk) I2 hP keep3 hP3 I2.bare
    refine wpAny_builtinsFor (m := X.mg) (by rw [I2.ok.glob]; exact (I2.mod.glob.keeps I2.bk).extBut hx TB.gP) e1 e2 (keep3 _ _ e4 (I2.bk _ _ e5)) e6 e7 e8 ?_
    intro h' tg' hn' keep' hlt' hcel hapt
    obtain ⟨W, Fin, Out, w0, step, rc⟩ := hR (upd H1 P (.tbl (ps ++ more))) ⟨⟨ps ++ more, upd_same, htr3⟩, fun b hb => upd_ne hb⟩
    have hsz : h3.objs.size < h'.objs.size := hlt'
    have ht3 : tn 0 h3 := T.keep _ _ _ ht fun b hb o e => keep3 b o (fpne b hb) e
    have hF3 : ∀ b ∈ fp, FpOk X pins (upd H1 P (.tbl (ps ++ more))) b ∧ b < h3.objs.size := fun b hb => by
      obtain ⟨f0, f1, f2, f3, f4, f5⟩ := hF b hb
      obtain ⟨o, ho, _⟩ := objF b hb
      exact ⟨⟨by rw [upd_ne (fpne b hb)]; exact f0, f1, f2, f3, f4, f5⟩, Heap.lt_size (keep3 b o (fpne b hb) ho)⟩
    have hexok : ExOk X pins fp := fun b hb => by
      obtain ⟨f0, f1, f2, f3, f4, f5⟩ := hF b hb
      exact ⟨f3, f1, f4, f5⟩
    refine hQ _ { s2 with heap := h3, toks := tk } fp W Fin Out _ _ J3 hexok rc ?_
    have hgen : ∀ h : Heap, h.get? h'.objs.size = some { cls := .type "generator", data := .fields #[.int s2.gens.size 0, .str "<genexpr>" tg', .str (X.env.qual ++ "<genexpr>") (tg' + 1)] } → h.IsGen h'.objs.size s2.gens.size := fun h e => ⟨_, _, _, e, rfl, rfl, rfl⟩
    have keep5 : ∀ b o, h3.get? b = some o → (h'.push { cls := .type "generator", data := .fields #[.int s2.gens.size 0, .str "<genexpr>" tg', .str (X.env.qual ++ "<genexpr>") (tg' + 1)] }).get? b = some o := fun b o e => Heap.get?_push_of_some _ (keep' b o e)
    refine ⟨h'.objs.size, s2.gens.size, _, rfl, ?_, ?_, hgen _ (Heap.get?_push_size _ rfl), Array.getElem?_push_size .., rfl, AllBare.push I2.bare rfl, J3.nolimit.keeps keep5, keep5, w0, ?_⟩
    · show h3.objs.size ≤ h'.objs.size
      omega
    · show h'.objs.size < (h'.push _).objs.size
      rw [Heap.size_push]
      exact Nat.lt_succ_self _
    intro A B Cr s5 hrA hfA CB hBs hk5 hC0 ho5 hb5
    have hBs' : ∀ b ∈ B, h'.objs.size + 1 ≤ b := fun b hb => by
      have q : (h'.push _).objs.size ≤ b := hBs b hb
      rw [Heap.size_push] at q
      exact q
    have k35 : ∀ b o, h3.get? b = some o → s5.heap.get? b = some o := fun b o e => hk5 b o (keep5 b o e)
    have hrd := hrA.deeper (genEnv scope (gcl X scope h3.objs.size) h3.objs.size code builtinsNs X.env)
    have I5 : Inv (gxc X N (genEnv scope (gcl X scope h3.objs.size) h3.objs.size code builtinsNs X.env) A { s2 with heap := h3, toks := tk } (upd H1 P (.tbl (ps ++ more))) fp [(h'.objs.size, { cls := .type "generator", data := .fields #[.int s2.gens.size 0, .str "<genexpr>" tg', .str (X.env.qual ++ "<genexpr>") (tg' + 1)] })])
        (pinsOf B s5.heap) (capt σ js) (upd H1 P (.tbl (ps ++ more))) s5 := by
      refine inv_gx ok J3 hfA hrA.hd (Nat.le_refl _) rfl hF3 k35 ((hn'.push _).keeps hk5) ho5 hb5 (fun n c hm => ⟨(hcel n c hm).1.keeps fun b o e => hk5 b o (Heap.get?_push_of_some _ e), (hcel n c hm).2⟩) hapt ?_ ?_ (hk5 _ _ (Heap.get?_push_size _ rfl)) (fun v q => by cases q) fun b hb => ⟨?_, ?_, CB.obj _ _ hC0 b hb⟩
      · show h'.objs.size ≠ h3.objs.size
        omega
      · show h3.objs.size ≤ h'.objs.size
        omega
      · show h3.objs.size ≤ b
        have := hBs' b hb
        omega
      · have q1 := hBs' b hb
        exact Nat.ne_of_gt (show h3.objs.size < b by omega)
    have clt : ∀ x c, (gcl X scope h3.objs.size).lookup x = some c → c < h'.objs.size := fun x c e => by
      rcases gcl_mem ok.fre J3 e with ⟨_, z⟩ | ⟨_, z⟩
      · obtain ⟨v, o, ho, _⟩ := J3.cell x c z
        exact Nat.lt_trans (Heap.lt_size ho) hsz
      · exact (hcel _ _ z).1.lt
    refine gstart T (T.keep _ _ _ ht3 fun b hb o e => k35 b o e) (gloop ok.co (fun h e => hgen h e) T CB (fun b hb => ?_) (hg A _ _ _ _ _ _ _ _ hrd) (he A _ _ _ _ _ _ _ _ hrd) step sizeLine [] s5 s5 _ (by simp) w0 hC0 I5 (fun b hb => ?_) (T.keep _ _ _ ht3 fun b hb o e => k35 b o e))
    · have hb1 := hBs' b hb
      refine ⟨?_, ?_, ?_, fun x c e => ?_, fun z => ?_⟩
      · show h3.objs.size ≤ b
        omega
      · exact Nat.ne_of_gt (show h3.objs.size < b by omega)
      · exact Nat.ne_of_gt (show h'.objs.size < b by omega)
      · have q1 := clt x c e
        exact Nat.ne_of_lt (show c < b from Nat.lt_of_lt_of_le q1 (by omega))
      · have q1 := (hF3 b z).2
        exact absurd (show h3.objs.size < b by omega) (Nat.not_lt_of_le (Nat.le_of_lt q1))
    · obtain ⟨⟨f0, f1, f2, f3, f4, f5⟩, fl⟩ := hF3 b hb
      refine ⟨f0, Nat.ne_of_lt fl, fun z => ?_, .inl hb, fun x c e => ?_, fun p hp => ?_⟩
      · rcases List.mem_cons.mp (J3.stkSub b z) with z | z
        · exact f1 z
        · exact f2 z
      · rcases gcl_mem ok.fre J3 e with ⟨_, z⟩ | ⟨_, z⟩
        · exact f4 x c z
        · exact Nat.ne_of_gt (Nat.lt_of_lt_of_le fl (Nat.le_of_succ_le (hcel _ _ z).2))
      · rcases List.mem_append.mp hp with z | z
        · rw [List.mem_singleton.mp z]
          exact Nat.ne_of_gt (show b < h'.objs.size from Nat.lt_of_lt_of_le fl (by omega))
        · have q1 := hBs' p.1 (mem_pinsOf z).1
          exact Nat.ne_of_gt (show b < p.1 from Nat.lt_of_lt_of_le fl (by omega))
  cases hf : codeAmong gpos ps.toList with
  | none =>
    refine wpAny_genexprCodeX hcode (cd.code hPs htr) (cd.tab hPs) hf fun c' h' tk hx hge hlt hco' _ htab' _ => ?_
    obtain ⟨o1, vs, f1, tf, fl, tg1, inF, tx, tt, op, _, _, _, _, _, _, _, _, _, htr', _⟩ := hco'
    exact cont _ h' tk _ hx htab'.2 htr'
  | some cv =>
    refine wpAny_genexprCode_hit hcode (cd.code hPs htr) hf ?_
    have e0 : ps ++ #[] = ps := by simp
    exact cont cv s2.heap s2.toks #[] (Heap.ExtBut.refl _ _) (by rw [e0]; exact hPs) (by rw [e0]; exact htr)
end
end BT

namespace BT
open PySem PySem.Spec PyProof.Rows L2 GenW

/-- the list that tuple(..) fills -/
def CrS (S : Addr) (ys : List V) (h : Heap) : Prop := ∃ (acc : Array Value) (c : Nat), h.get? S = some (lstObj acc c) ∧ Vals ys acc.toList
theorem consS (S : Addr) : Cons [S] (CrS S) where
  obj := fun ys h hc b hb => by
    obtain ⟨acc, c, e, _⟩ := hc
    rw [List.mem_singleton.mp hb]
    exact ⟨_, e, fun v q => by cases q⟩
  keep := fun ys h h' hc k => by
    obtain ⟨acc, c, e, r⟩ := hc
    exact ⟨acc, c, k S (List.mem_singleton.mpr rfl) _ e, r⟩

section
variable {X : Cx} {H1 : Hp} {sc : Shared} {fp : List Addr} {W Fin : List V → Hp → Prop} {Out : List V → V → Hp → Prop}
theorem drainT {A : Around} {R : Result → Shared → Prop} {S a : Addr} {g : Nat} {res : Value} (hh : A.handled = none) (hd : A.depth < recursionLimit) (hSa : S ≠ a) (hSc : S ≠ cStatics) (hO : ∀ ys y H, Out ys y H → W (ys ++ [y]) H)
    (hend : ∀ s' acc c H' ys, s'.heap.get? S = some (lstObj acc c) → Vals ys acc.toList → ys.length ≤ sizeLine → Abs X H1 sc fp [S] H' s' → Fin ys H' → R (.ok (.ret res)) s') :
    ∀ (m : Nat) (s : Shared), s.heap.IsGen a g → s.heap.NoLimit → (∃ gs, s.gens[g]? = some gs ∧ gs.Goes (model X.prog X.w) A.in1.in1 (RG X H1 sc fp [S] (CrS S) Fin) (YG X H1 sc fp [S] (CrS S) W Out a g) m (.send .none) (s.setGen g .running)) →
      codeAny (model X.prog X.w) A (.builtin "list.extend.loop" ⟨[.ref S, .ref a, res], []⟩) R s := by
  have fin : ∀ (s₁ : Shared) (n : Nat) (s0 : Shared), (∃ (ys : List V) (H : Hp), ys.length ≤ sizeLine ∧ Fin ys H ∧ CrS S ys s₁.heap ∧ Abs X H1 sc fp [S] H s₁) → ∀ h' : Heap, (∀ b o, s₁.heap.get? b = some o → h'.get? b = some o) → R (.ok (.ret res)) { s₁.setGen g .finished with heap := h' } := fun s₁ n s0 hp h' hk => by
    obtain ⟨ys, H', hl, hf, ⟨acc, c, e, r⟩, q1, q2, q3, q4, q5⟩ := hp
    exact hend _ acc c H' ys (hk _ _ e) r hl ⟨q1, allBare_setGen q2 rfl, q3.trans (Un.kept hk), q4.kept hk, q5⟩ hf
  intro m
  induction m with
  | zero =>
    intro s hg hl ⟨gs, hgs, hgo⟩
    refine codeAny_builtin F.entry_extend_loop ?_
    rw [Around.under_plainId F.plain_extend_loop _]
    show wpAny _ A.in1 (pyNext (.ref a) >>= _) _ _ s
    refine wpAny_bind (wpAny_pyNext_genexpQ (A := A.in1) (P := fun n s₀ s₁ => ∃ (ys : List V) (H : Hp), ys.length ≤ sizeLine ∧ Fin ys H ∧ CrS S ys s₁.heap ∧ Abs X H1 sc fp [S] H s₁) hh hl hd hg hgs hgo (fun v s₁ gs' hb hv => ?_) fun s₁ hp h' hk => ?_)
    · obtain ⟨ys, y, H', hn, rv, ho, ⟨acc, c, e, r⟩, ⟨q1, q2, _⟩, _, _, hk⟩ := hv
      have z := hk { s₁.setGen g gs' with heap := s₁.heap.update S (Obj.mapSeq (·.push v)) } (hO _ _ _ ho) ⟨acc.push v, _, Heap.get?_update_self _ e rfl, by rw [Array.toList_push]; exact r.append (.cons rv .nil)⟩ q1 (allBare_setGen q2 hb)
        fun b o hb e' => (Heap.get?_update_other _ _ (fun z => hb (List.mem_singleton.mpr z.symm))).trans e'
      exact z.elim
    · exact wpAny_pure (fin s₁ 0 s hp h' hk)
  | succ m ih =>
    intro s hg hl ⟨gs, hgs, hgo⟩
    have hgl : g < s.gens.size := (Array.getElem?_eq_some_iff.mp hgs).1
    refine codeAny_builtin F.entry_extend_loop ?_
    rw [Around.under_plainId F.plain_extend_loop _]
    show wpAny _ A.in1 (pyNext (.ref a) >>= _) _ _ s
    refine wpAny_bind (wpAny_gsz (n := g + 1) hgl (wpAny_pyNext_genexpQ (A := A.in1) (P := fun n s₀ s₁ => ∃ (ys : List V) (H : Hp), ys.length ≤ sizeLine ∧ Fin ys H ∧ CrS S ys s₁.heap ∧ Abs X H1 sc fp [S] H s₁) hh hl hd hg hgs hgo (fun v s₁ gs' hb hv => ?_) fun s₁ hp h' hk => ?_))
    · intro hsz
      obtain ⟨ys, y, H', hn, rv, ho, ⟨acc, c, e, r⟩, ⟨q1, q2, _⟩, hl1, hg1, hk⟩ := hv
      have hasz : acc.size = ys.length := by
        have z1 := r.length
        have z2 : acc.toList.length = acc.size := by simp
        omega
      show wpAny _ A.in1 (updateSeq S (·.push v) >>= _) _ _ _
      refine wpAny_bind ?_
      refine wpAny_updateSeq e rfl (wpAny_pure ⟨plainId_quiet F.plain_extend_loop _, ?_⟩) (by omega) (by show (acc.push v).size ≤ sizeLine + 1; rw [Array.size_push]; omega)
      have keep3 : ∀ b o, b ≠ S → s₁.heap.get? b = some o → (s₁.heap.update S (Obj.mapSeq (·.push v))).get? b = some o := fun b o hbS e => (Heap.get?_update_other _ _ (Ne.symm hbS)).trans e
      have hsz1 : g < s₁.gens.size := by
        have q : (s₁.setGen g gs').gens.size = s₁.gens.size := setGen_size _ _ _
        have hsz' : g + 1 ≤ (s₁.setGen g gs').gens.size := hsz
        omega
      refine ih { s₁.setGen g gs' with heap := s₁.heap.update S (Obj.mapSeq (·.push v)) } ?_ ?_ ⟨gs', setGen_at hsz1, ?_⟩
      · obtain ⟨o, nm, qn, ho, r⟩ := hg1
        exact ⟨o, nm, qn, keep3 a o (Ne.symm hSa) ho, r⟩
      · obtain ⟨mc, hns, hnn⟩ := hl1
        exact ⟨mc, hns.at' fun o e => keep3 _ o (Ne.symm hSc) e, hnn⟩
      · refine hk { ({ s₁.setGen g gs' with heap := s₁.heap.update S (Obj.mapSeq (·.push v)) } : Shared).setGen g .running with heap := s₁.heap.update S (Obj.mapSeq (·.push v)) } (hO _ _ _ ho) ⟨acc.push v, _, Heap.get?_update_self _ e rfl, ?_⟩ q1 (allBare_setGen (s := s₁.setGen g gs') (allBare_setGen q2 hb) rfl) fun b o hb e' => keep3 b o (fun z => hb (List.mem_singleton.mpr z)) e'
        rw [Array.toList_push]
        exact r.append (.cons rv .nil)
    · intro _
      exact wpAny_pure (fin s₁ 0 s hp h' hk)

theorem collectG {k : Nat} {A : Around} {u : Value} {s : Shared} {Q : List Value → Shared → Prop} {E : Value → Shared → Prop} (hr : Room (k + 4) A) (hfr : A.frames = some X.stack) (h : GM X k H1 sc fp W Fin Out u s) (hO : ∀ ys y H, Out ys y H → W (ys ++ [y]) H)
    (hQ : ∀ S s' acc H' ys, s.heap.objs.size ≤ S → Vals ys acc → ys.length ≤ sizeLine → Abs X H1 sc fp [S] H' s' → Fin ys H' → Q acc s') : wpAny (model X.prog X.w) A (collect u) Q E s := by
  obtain ⟨a, g, c, rfl, ha1, ha2, hg, hgs, hos, hb, hl, hkp, w0, wake⟩ := h
  have hSa : s.heap.objs.size ≠ a := Nat.ne_of_gt ha2
  have hcl : cStatics < s.heap.objs.size := let ⟨_, hn, _⟩ := hl; hn.lt
  have hSc : s.heap.objs.size ≠ cStatics := Nat.ne_of_gt hcl
  unfold collect
  refine wpAny_bind (wpAny_runValue (codeAny_builtin F.entry_proto_collect ?_))
  rw [Around.under_plainId F.plain_proto_collect _]
  show wpAny _ A.in1 (newList [] >>= fun l => again (.builtin "list.__iadd__" ⟨[l, .ref a], []⟩)) _ _ s
  refine wpAny_bind (wpAny_newObj_type ?_)
  refine wpAny_pure ⟨plainId_quiet F.plain_list_iadd _, codeAny_builtin F.entry_list_iadd ?_⟩
  rw [Around.under_plainId F.plain_list_iadd _]
  have up : ∀ (h : Heap) (f : Obj → Obj), (∀ b o, s.heap.get? b = some o → h.get? b = some o) → ∀ b o, s.heap.get? b = some o → (h.update s.heap.objs.size f).get? b = some o := fun h f q b o e =>
    (Heap.get?_update_other _ _ (Ne.symm (Nat.ne_of_lt (Heap.lt_size e)))).trans (q b o e)
  have k1 : ∀ b o, s.heap.get? b = some o → (s.heap.push { cls := .type "list", data := .seq ([] : List Value).toArray }).get? b = some o := fun b o e => Heap.get?_push_of_some _ e
  have gty : ∀ {h : Heap}, (∀ b o, s.heap.get? b = some o → h.get? b = some o) → h.IsGen a g := fun {h} q => hg.keeps q
  show wpAny _ A.in1 (Builtin.List.listExtendWith (.ref s.heap.objs.size) (.ref a) (.ref s.heap.objs.size)) _ _ _
  unfold Builtin.List.listExtendWith
  refine wpAny_bind (wpAny_typeOf (Heap.IsGen.typeIs (s := { s with heap := _ }) (gty k1)) ?_)
  have h1 : Builtin.List.listSameRef (.ref s.heap.objs.size) (.ref a) = false := by simp [Builtin.List.listSameRef, hSa]
  have h2 : (Value.type "generator" == Value.type "list") = false := by decide
  have h3 : (Value.type "generator" == Value.type "tuple") = false := by decide
  simp only [h1, h2, h3, Bool.or_false, Bool.false_eq_true, if_false]
  refine wpAny_bind (wpAny_pyIter_gen (s := { s with heap := _ }) (gty k1) ?_)
  refine wpAny_bind (wpAny_holding ?_)
  unfold Builtin.List.listLengthHint
  refine wpAny_bind (wpAny_specialOf (Heap.IsGen.typeIs (s := { s with heap := _ }) (gty k1)) F.gen_no_len ?_)
  show wpAny _ A.in1 (specialOf (Value.ref a) (Str.ofString "__length_hint__") >>= _) _ _ _
  refine wpAny_bind (wpAny_specialOf (Heap.IsGen.typeIs (s := { s with heap := _ }) (gty k1)) F.gen_no_hint ?_)
  refine wpAny_pure ?_
  show wpAny _ A.in1 (rule "list.extend.makes-room" >>= fun _ => Builtin.List.listTouch (.ref s.heap.objs.size) >>= fun _ =>
    again (.builtin "list.extend.loop" ⟨[.ref s.heap.objs.size, .ref a, .ref s.heap.objs.size], []⟩)) _ _ _
  refine wpAny_bind (wpAny_rule ?_)
  have hS₁ : (s.heap.push { cls := .type "list", data := .seq ([] : List Value).toArray }).get? s.heap.objs.size = some { cls := .type "list", data := .seq ([] : List Value).toArray } := Heap.get?_push_size _ rfl
  refine wpAny_bind ?_
  show wpAny _ A.in1 (updateSeq s.heap.objs.size (·.push .none) >>= fun _ => updateSeq s.heap.objs.size (·.pop)) _ _ _
  refine wpAny_bind (wpAny_updateSeq hS₁ rfl ?_)
  have hS₂ := Heap.get?_update_self (Obj.mapSeq (·.push Value.none)) hS₁ rfl
  refine wpAny_updateSeq hS₂ rfl ?_
  have hS₃ := Heap.get?_update_self (Obj.mapSeq (·.pop)) hS₂ rfl
  have k3 := up _ (Obj.mapSeq (·.pop)) (up _ (Obj.mapSeq (·.push Value.none)) k1)
  refine wpAny_pure ⟨plainId_quiet F.plain_extend_loop _, ?_⟩
  refine drainT (X := X) (H1 := H1) (sc := sc) (fp := fp) (W := W) (Fin := Fin) (Out := Out) (A := A) (g := g) (S := s.heap.objs.size) (res := .ref s.heap.objs.size) hr.hd (by have := hr.dp; show A.depth < _; omega) hSa hSc hO (fun s' acc c' H' ys q1 q2 q3 q4 q5 => ?_) sizeLine _ (gty k3) (hl.keeps k3) ⟨_, hgs, rfl, ?_⟩
  · show wpAny _ A (load s.heap.objs.size >>= _) _ _ s'
    refine wpAny_bind (wpAny_load q1 (wpAny_pure ?_))
    exact hQ s.heap.objs.size s' acc.toList H' ys (Nat.le_refl _) q2 q3 q4 q5
  · refine wake _ _ _ _ ⟨hr.hd, ?_, ?_⟩ hfr (consS s.heap.objs.size) (fun b hb => by rw [List.mem_singleton.mp hb]; exact Nat.le_refl _) k3 ⟨#[], _, hS₃, .nil⟩ hos (allBare_setGen (s := { s with heap := _ }) hb rfl)
    · have := hr.dp
      show A.depth + 3 * (k + 1) + 5 < _
      omega
    · have := hr.un
      show A.units + 1 + 1 + 16 * (k + 1) + 200 < _
      omega
end
end BT

namespace BT
open PySem PySem.Spec PyProof.Rows L2 GenW

section
variable {X : Cx} {H1 : Hp} {sc : Shared} {fp : List Addr} {W Fin : List V → Hp → Prop} {Out : List V → V → Hp → Prop}
theorem codeTupG {k : Nat} {A : Around} {u : Value} {s : Shared} {Q₁ : Value → Shared → Prop} {E : Value → Shared → Prop} (hr : Room (k + 5) A) (hfr : A.frames = some X.stack) (h : GM X k H1 sc fp W Fin Out u s) (hO : ∀ ys y H, Out ys y H → W (ys ++ [y]) H)
    (hQ : ∀ S s' acc H' ys, s.heap.objs.size ≤ S → Vals ys acc → ys.length ≤ sizeLine → Abs X H1 sc fp [S] H' s' → Fin ys H' → Q₁ (.ref s'.heap.objs.size) { s' with heap := s'.heap.push { cls := .type "tuple", data := .seq acc.toArray } }) :
    codeAny (model X.prog X.w) A (.call (.builtin "tuple.__new__") ⟨[.type "tuple", u], []⟩) (wants Q₁ E) s := by
  obtain ⟨a, g, c, rfl, ha1, ha2, hg, rst⟩ := id h
  refine codeAny_of_tree ?_
  show wpAny _ A.in1 (do checkBuiltinCall "tuple.__new__" ⟨[.type "tuple", .ref a], []⟩; again (.builtin "tuple.__new__" ⟨[.type "tuple", .ref a], []⟩)) _ _ s
  refine wpAny_bind (wpAny_of_eq (F.newCall_tuple_1 _) (wpAny_pure ⟨plainId_quiet F.plain_tuple_new _, codeAny_builtin F.entry_tuple_new ?_⟩))
  rw [Around.under_plainId F.plain_tuple_new _]
  have hsub := sub_tuple_self
  have hinit := init_tuple_lookup
  have hmh := madeHere_tuple
  have hTI : s.TypeIs (.ref a) "generator" := hg.typeIs
  wp_walk using wpAny_typeOf hTI, collectG (A := A.in1) (hr.in1) hfr h hO
  intro S s' acc H' ys q1 q2 q3 q4 q5
  show wpAny _ _ (Builtin.Tuple.tupleExact acc.toArray >>= fun v => ret v) _ _ _
  unfold Builtin.Tuple.tupleExact
  refine wpAny_bind (wpAny_newObj_type ?_ (by show acc.toArray.size ≤ sizeLine; rw [List.size_toArray, ← q2.length]; exact q3))
  exact wpAny_pure (hQ S s' acc H' ys q1 q2 q3 q4 q5)
theorem callTupG {k : Nat} {A : Around} {u : Value} {s : Shared} {Q : Value → Shared → Prop} {E : Value → Shared → Prop} (hr : Room (k + 6) A) (hfr : A.frames = some X.stack) (h : GM X k H1 sc fp W Fin Out u s) (hO : ∀ ys y H, Out ys y H → W (ys ++ [y]) H)
    (hQ : ∀ S s' acc H' ys, s.heap.objs.size ≤ S → Vals ys acc → ys.length ≤ sizeLine → Abs X H1 sc fp [S] H' s' → Fin ys H' → Q (.ref s'.heap.objs.size) { s' with heap := s'.heap.push { cls := .type "tuple", data := .seq acc.toArray } }) :
    wpAny (model X.prog X.w) A (call (.type "tuple") [u]) Q E s := by
  refine callType_codes (Q₁ := fun obj s₁ => s₁.TypeIs obj "tuple" ∧ Q obj s₁) F.called_tuple (F.typeCall_tuple_1 _) F.entry_object_init
    (codeTupG (A := A.in1) hr.in1 hfr h hO fun S s' acc H' ys q1 q2 q3 q4 q5 => ⟨⟨_, Heap.get?_push_size _ rfl, rfl⟩, hQ S s' acc H' ys q1 q2 q3 q4 q5⟩) fun obj s₁ h₁ => ?_
  exact ⟨h₁.1, F.args_object_init_2 obj _, object_init_meets F.called_tuple.init.lookup F.called_tuple.made (by decide) X.prog X.w A.in1 _ s₁ ⟨h₁.1, rfl, h₁.2⟩⟩

/-- behind the walk: the frames around go on -/
theorem Abs.inv {pins : List (Addr × Obj)} {σ : L2.St} {H' : Hp} {s' : Shared} {B : List Addr} (a : Abs X H1 sc fp B H' s') (I : Inv X pins σ H1 sc) (hex : ExOk X pins fp) : Inv X pins σ H' s' :=
  I.call' (ch := fp) a.1 a.2.2.1 a.2.2.2.1 a.2.1 hex
end

/-- tuple(e for x in ..) -/
def RcT (Q : VK) (W Fin : List V → Hp → Prop) (Out : List V → V → Hp → Prop) : Prop := Out = (fun ys y H => W (ys ++ [y]) H) ∧ Fin = fun ys H => ∀ p, H p = none → Q (.ref p) (upd H p (.tup ys))
def tTupG (P : Addr) (wi : TI) (g : TG) (te : TE) (js : List (Option Nat)) : TE := fun σ H Q => wi σ H fun J H1 => TabG H1 P ∧ ∀ H2, Tabbed P H1 H2 → ∃ W Fin Out, W [] H2 ∧ GStep J g te (capt σ js) W Fin Out ∧ RcT Q W Fin Out
theorem tup_by {J : It} {g : TG} {te : TE} {σg : L2.St} {Q : VK} {H2 : Hp} (W : List V → Hp → Prop) (w0 : W [] H2) (step : GStep J g te σg W (fun ys H => ∀ p, H p = none → Q (.ref p) (upd H p (.tup ys))) (fun ys y H => W (ys ++ [y]) H)) :
    ∃ W Fin Out, W [] H2 ∧ GStep J g te σg W Fin Out ∧ RcT Q W Fin Out := ⟨W, _, _, w0, step, rfl, rfl⟩
section
variable {X : Cx} {k : Nat} {c P : Addr} {N : List Str} {js : List (Option Nat)} {scope : Scope} {elt tg iter : Expr} {gpos pos p : Pos} {wi : TI} {g : TG} {te : TE}
theorem pe_tupG (hr : Room (k + 6) X.A) (TB : TabB X.base X.mg c P) (hcode : X.env.code = .ref c) (ok : GxOk X.N X.env.scope N js scope) (hi : PI X tg iter wi) (hs : ∀ v, genFold iter X.env v = pure v)
    (hg : ∀ A C code bi cl sc H fp pn, Room k (A.deeper (genEnv scope cl C code bi X.env)) → PG (gxc X N (genEnv scope cl C code bi X.env) A sc H fp pn) tg g)
    (he : ∀ A C code bi cl sc H fp pn, Room k (A.deeper (genEnv scope cl C code bi X.env)) → PE (gxc X N (genEnv scope cl C code bi X.env) A sc H fp pn) elt te)
    (hgl : Gl X "tuple") (hmg : X.mg "tuple" = none) (hst : starEach [.GeneratorExp elt [⟨tg, iter, [], 0⟩] scope gpos] X.env = (false, eval (.GeneratorExp elt [⟨tg, iter, [], 0⟩] scope gpos) X.env) :: starEach [] X.env := by rfl) :
    PE X (.Call (.Name "tuple" p) [.GeneratorExp elt [⟨tg, iter, [], 0⟩] scope gpos] [] pos) (tTupG P wi g te js) := by
  refine ⟨fun pins s σ H Q I hq => ?_⟩
  refine wpAny_Call_Name_kw (ld_blt I hgl hmg (by decide +kernel : bootBuiltins "tuple" = some (.type "tuple")) ?_ (by decide) (by decide))
  refine PyProof.Rows.callWith_type1 ?_ hst rfl
  rw [hst]
  show wpAny _ _ (spliced ((false, eval (.GeneratorExp elt [⟨tg, iter, [], 0⟩] scope gpos) X.env) :: backTo pos (starEach [] X.env))) _ _ s
  refine Calls.spliced_cons (gx_eval (k := k) (Rc := fun _ => RcT Q) (hr.mono (by omega)) TB hcode ok hi hs hg he I hq fun H2 sc fp W Fin Out u s' I2 hex hrc hG => ?_)
  obtain ⟨rfl, rfl⟩ := hrc
  refine Calls.spliced_nil ?_
  refine callTupG hr I2.ok.frames hG (fun ys y H h => h) fun S s2 acc H' ys q1 q2 q3 q4 q5 => ?_
  have I3 := q4.inv I2 hex
  have hf : H' s2.heap.objs.size = none := I3.hok.fresh (Nat.le_refl _)
  refine ⟨.ref s2.heap.objs.size, upd H' s2.heap.objs.size (.tup ys), I3.laid (t' := s2.toks) (fun b u e => Heap.get?_push_of_some _ e) (Nat.le_refl _) ?_, rfl, q5 _ hf⟩
  exact ⟨q3, acc, q2, ⟨_, Heap.get?_push_size _ rfl, rfl, _, rfl⟩⟩
end

/-! ### all(e for x in ..) -/
def CrA (_ : List V) (_ : Heap) : Prop := True
theorem consA : Cons [] CrA := ⟨fun _ _ _ b hb => (by cases hb), fun _ _ _ _ _ => trivial⟩
def OutA (W : List V → Hp → Prop) (Q : VK) : List V → V → Hp → Prop := fun ys y H => ∃ b, y = .bl b ∧ if b = true then W (ys ++ [y]) H else Q (.bl false) H
section
variable {X : Cx} {H1 : Hp} {sc : Shared} {fp : List Addr} {W Fin : List V → Hp → Prop}
theorem drainA {A : Around} {R : Result → Shared → Prop} {a : Addr} {g : Nat} {QV : VK} (hh : A.handled = none) (hd : A.depth < recursionLimit)
    (hend : ∀ s' H' ys, Abs X H1 sc fp [] H' s' → Fin ys H' → R (.ok (.ret (.bool true))) s') (hno : ∀ s' H', Abs X H1 sc fp [] H' s' → QV (.bl false) H' → R (.ok (.ret (.bool false))) s') :
    ∀ (m : Nat) (s : Shared), s.heap.IsGen a g → s.heap.NoLimit → (∃ gs, s.gens[g]? = some gs ∧ gs.Goes (model X.prog X.w) A.in1.in1 (RG X H1 sc fp [] CrA Fin) (YG X H1 sc fp [] CrA W (OutA W QV) a g) m (.send .none) (s.setGen g .running)) →
      codeAny (model X.prog X.w) A (.builtin "all.loop" ⟨[.ref a], []⟩) R s := by
  have fin : ∀ (s₁ : Shared), (∃ (ys : List V) (H : Hp), ys.length ≤ sizeLine ∧ Fin ys H ∧ CrA ys s₁.heap ∧ Abs X H1 sc fp [] H s₁) → ∀ h' : Heap, (∀ b o, s₁.heap.get? b = some o → h'.get? b = some o) → R (.ok (.ret (.bool true))) { s₁.setGen g .finished with heap := h' } := fun s₁ hp h' hk => by
    obtain ⟨ys, H', hl, hf, _, q1, q2, q3, q4, q5⟩ := hp
    exact hend _ H' ys ⟨q1, allBare_setGen q2 rfl, q3.trans (Un.kept hk), q4.kept hk, q5⟩ hf
  have no : ∀ (s₁ : Shared) (gs' : GenState) (H' : Hp), gs'.bare = true → Abs X H1 sc fp [] H' s₁ → QV (.bl false) H' → R (.ok (.ret (.bool false))) (s₁.setGen g gs') := fun s₁ gs' H' hb hp hq =>
    hno _ H' ⟨hp.1, allBare_setGen hp.2.1 hb, hp.2.2.1, hp.2.2.2.1, hp.2.2.2.2⟩ hq
  intro m
  induction m with
  | zero =>
    intro s hg hl ⟨gs, hgs, hgo⟩
    refine codeAny_builtin F.entry_all_loop ?_
    rw [Around.under_plainId F.plain_all_loop _]
    show wpAny _ A.in1 (pyNext (.ref a) >>= _) _ _ s
    refine wpAny_bind (wpAny_pyNext_genexpQ (A := A.in1) (P := fun n s₀ s₁ => ∃ (ys : List V) (H : Hp), ys.length ≤ sizeLine ∧ Fin ys H ∧ CrA ys s₁.heap ∧ Abs X H1 sc fp [] H s₁) hh hl hd hg hgs hgo (fun v s₁ gs' hb hv => ?_) fun s₁ hp h' hk => ?_)
    · obtain ⟨ys, y, H', hn, rv, ⟨bb, rfl, ho⟩, _, hab, _, _, hk⟩ := hv
      obtain rfl : v = .bool bb := rv
      refine wpAny_bind (wpAny_holding (wpAny_truthy_bool ?_))
      refine wpAny_bind (wpAny_letGo ?_)
      cases bb with
      | true => exact (hk s₁ ho trivial hab.1 hab.2.1 fun b o _ e => e).elim
      | false =>
        simp only [Bool.false_eq_true, if_false]
        exact wpAny_bind (wpAny_rule (wpAny_pure (no s₁ gs' H' hb hab ho)))
    · exact wpAny_bind (wpAny_rule (wpAny_pure (fin s₁ hp h' hk)))
  | succ m ih =>
    intro s hg hl ⟨gs, hgs, hgo⟩
    have hgl : g < s.gens.size := (Array.getElem?_eq_some_iff.mp hgs).1
    refine codeAny_builtin F.entry_all_loop ?_
    rw [Around.under_plainId F.plain_all_loop _]
    show wpAny _ A.in1 (pyNext (.ref a) >>= _) _ _ s
    refine wpAny_bind (wpAny_gsz (n := g + 1) hgl (wpAny_pyNext_genexpQ (A := A.in1) (P := fun n s₀ s₁ => ∃ (ys : List V) (H : Hp), ys.length ≤ sizeLine ∧ Fin ys H ∧ CrA ys s₁.heap ∧ Abs X H1 sc fp [] H s₁) hh hl hd hg hgs hgo (fun v s₁ gs' hb hv => ?_) fun s₁ hp h' hk => ?_))
    · intro hsz
      obtain ⟨ys, y, H', hn, rv, ⟨bb, rfl, ho⟩, _, hab, hl1, hg1, hk⟩ := hv
      obtain rfl : v = .bool bb := rv
      refine wpAny_bind (wpAny_holding (wpAny_truthy_bool ?_))
      refine wpAny_bind (wpAny_letGo ?_)
      have hsz1 : g < s₁.gens.size := by
        have q : (s₁.setGen g gs').gens.size = s₁.gens.size := setGen_size _ _ _
        have hsz' : g + 1 ≤ (s₁.setGen g gs').gens.size := hsz
        omega
      cases bb with
      | true =>
        simp only [if_true]
        refine wpAny_pure ⟨plainId_quiet F.plain_all_loop _, ih _ hg1 hl1 ⟨gs', setGen_at hsz1, ?_⟩⟩
        exact hk ((s₁.setGen g gs').setGen g .running) ho trivial hab.1 (allBare_setGen (allBare_setGen hab.2.1 hb) rfl) fun b o _ e => e
      | false =>
        simp only [Bool.false_eq_true, if_false]
        exact wpAny_bind (wpAny_rule (wpAny_pure (no s₁ gs' H' hb hab ho)))
    · intro _
      exact wpAny_bind (wpAny_rule (wpAny_pure (fin s₁ hp h' hk)))
end
end BT

namespace BT
open PySem PySem.Spec PyProof.Rows L2 GenW
section
variable {X : Cx} {H1 : Hp} {sc : Shared} {fp : List Addr} {W Fin : List V → Hp → Prop}
theorem callAllG {k : Nat} {A : Around} {u : Value} {s : Shared} {Q : Value → Shared → Prop} {QV : VK} {E : Value → Shared → Prop} (hr : Room (k + 4) A) (hfr : A.frames = some X.stack) (h : GM X k H1 sc fp W Fin (OutA W QV) u s)
    (hend : ∀ s' H' ys, Abs X H1 sc fp [] H' s' → Fin ys H' → Q (.bool true) s') (hno : ∀ s' H', Abs X H1 sc fp [] H' s' → QV (.bl false) H' → Q (.bool false) s') :
    wpAny (model X.prog X.w) A (call (.builtin "all") [u]) Q E s := by
  obtain ⟨a, g, c, rfl, ha1, ha2, hg, hgs, hos, hb, hl, hkp, w0, wake⟩ := h
  refine call_function_tree F.kind_all F.plain_all F.entry_all (F.args_all1 _) ?_
  unfold Builtin.«all»
  refine wpAny_bind (m := oneArg "all" _) (wpAny_pure (wpAny_bind (wpAny_pyIter_gen hg ?_)))
  refine wpAny_pure ⟨plainId_quiet F.plain_all_loop _, drainA (X := X) (H1 := H1) (sc := sc) (fp := fp) (W := W) (Fin := Fin) (A := A) (a := a) (g := g) (QV := QV) hr.hd (by have := hr.dp; omega) hend hno sizeLine _ hg hl ⟨_, hgs, rfl, ?_⟩⟩
  refine wake _ _ _ _ ⟨hr.hd, ?_, ?_⟩ hfr consA (fun b hb => by cases hb) (fun b o e => e) trivial hos (allBare_setGen hb rfl)
  · have q := hr.dp
    show A.depth + 3 * (k + 1) + 5 < _
    omega
  · have q := hr.un
    show A.units + 1 + 1 + 16 * (k + 1) + 200 < _
    omega
end
def RcA (Q : VK) (W Fin : List V → Hp → Prop) (Out : List V → V → Hp → Prop) : Prop := Out = OutA W Q ∧ Fin = fun _ H => Q (.bl true) H
def tAllG (P : Addr) (wi : TI) (g : TG) (te : TE) (js : List (Option Nat)) : TE := fun σ H Q => wi σ H fun J H1 => TabG H1 P ∧ ∀ H2, Tabbed P H1 H2 → ∃ W Fin Out, W [] H2 ∧ GStep J g te (capt σ js) W Fin Out ∧ RcA Q W Fin Out
theorem all_by {J : It} {g : TG} {te : TE} {σg : L2.St} {Q : VK} {H2 : Hp} (W : Nat → Hp → Prop) (w0 : W 0 H2) (step : GStep J g te σg (fun ys => W ys.length) (fun _ H => Q (.bl true) H) (fun ys y H => ∃ b, y = .bl b ∧ if b = true then W (ys.length + 1) H else Q (.bl false) H)) :
    ∃ W Fin Out, W [] H2 ∧ GStep J g te σg W Fin Out ∧ RcA Q W Fin Out := by
  refine ⟨fun ys => W ys.length, _, _, w0, ?_, rfl, rfl⟩
  have e : OutA (fun ys => W ys.length) Q = fun ys y H => ∃ b, y = .bl b ∧ if b = true then W (ys.length + 1) H else Q (.bl false) H := by
    funext ys y H
    have el : (ys ++ [y]).length = ys.length + 1 := by simp
    show (∃ b, y = V.bl b ∧ if b = true then W (ys ++ [y]).length H else Q (V.bl false) H) = _
    rw [el]
  rw [e]
  exact step
section
variable {X : Cx} {k : Nat} {c P : Addr} {N : List Str} {js : List (Option Nat)} {scope : Scope} {elt tg iter : Expr} {gpos pos p : Pos} {wi : TI} {g : TG} {te : TE}
theorem pe_allG (hr : Room (k + 4) X.A) (TB : TabB X.base X.mg c P) (hcode : X.env.code = .ref c) (ok : GxOk X.N X.env.scope N js scope) (hi : PI X tg iter wi) (hs : ∀ v, genFold iter X.env v = pure v)
    (hg : ∀ A C code bi cl sc H fp pn, Room k (A.deeper (genEnv scope cl C code bi X.env)) → PG (gxc X N (genEnv scope cl C code bi X.env) A sc H fp pn) tg g)
    (he : ∀ A C code bi cl sc H fp pn, Room k (A.deeper (genEnv scope cl C code bi X.env)) → PE (gxc X N (genEnv scope cl C code bi X.env) A sc H fp pn) elt te)
    (hgl : Gl X "all") (hmg : X.mg "all" = none) (hst : starEach [.GeneratorExp elt [⟨tg, iter, [], 0⟩] scope gpos] X.env = (false, eval (.GeneratorExp elt [⟨tg, iter, [], 0⟩] scope gpos) X.env) :: starEach [] X.env := by rfl) :
    PE X (.Call (.Name "all" p) [.GeneratorExp elt [⟨tg, iter, [], 0⟩] scope gpos] [] pos) (tAllG P wi g te js) := by
  refine ⟨fun pins s σ H Q I hq => ?_⟩
  refine wpAny_Call_Name_kw (ld_blt I hgl hmg (by decide +kernel : bootBuiltins "all" = some (.builtin "all")) ?_ (by decide) (by decide))
  refine PyProof.Rows.callWith_builtin1 ?_ hst rfl
  rw [hst]
  show wpAny _ _ (spliced ((false, eval (.GeneratorExp elt [⟨tg, iter, [], 0⟩] scope gpos) X.env) :: backTo pos (starEach [] X.env))) _ _ s
  refine Calls.spliced_cons (gx_eval (k := k) (Rc := fun _ => RcA Q) (hr.mono (by omega)) TB hcode ok hi hs hg he I hq fun H2 sc fp W Fin Out u s' I2 hex hrc hG => ?_)
  obtain ⟨rfl, rfl⟩ := hrc
  refine Calls.spliced_nil ?_
  exact callAllG hr I2.ok.frames hG (fun s2 H' ys q4 q5 => ⟨.bl true, H', q4.inv I2 hex, rfl, q5⟩) fun s2 H' q4 q5 => ⟨.bl false, H', q4.inv I2 hex, rfl, q5⟩
end
end BT

namespace BT
open PySem PySem.Spec PyProof.Rows L2 GenW
set_option maxHeartbeats 4000000 in
theorem meets_enumT (l : Addr) (items : Array Value) (n : Nat) (dct : Option Addr) (sl : Array (Option Value)) :
    Meets (Builtin.«enumerate.__new__» ⟨[.type "enumerate", .ref l], []⟩) (fun _ R s => s.heap.get? l = some { cls := .type "tuple", dict := dct, data := .seq items n, slots := sl } ∧
      R (.ok (.ret (.ref (s.heap.push { cls := .type "tuple_iterator", data := .fields #[.ref l, .int 0 0] }).objs.size)))
        { s with heap := (s.heap.push { cls := .type "tuple_iterator", data := .fields #[.ref l, .int 0 0] }).push { cls := .type "enumerate", data := .fields #[.none, .bool false, .ref s.heap.objs.size, rawInt 0, .none, .none] } }) :=
  .of_wp fun prog w A R s h => by
    obtain ⟨hp, g, d, tk, os⟩ := s
    obtain ⟨hl, h⟩ := h
    have hsub := sub_enumerate
    have hL : Heap.IsTuple (Shared.heap ⟨hp, g, d, tk, os⟩) l items := ⟨_, hl, rfl, n, rfl⟩
    wp_walk using AutoSeq1.wpAny_loadPart' hl
    refine wpAny_stack_any fun st => wpAny_pure ?_
    split
    · rename_i c _ _ _ _ _
      cases (c == Value.type "enumerate") <;> (wp_walk using AutoSeq1.wpAny_loadPart' hl, wpAny_pyIter_tuple hL; exact ⟨_, rfl, h⟩)
    · wp_walk using AutoSeq1.wpAny_loadPart' hl, wpAny_pyIter_tuple hL
      exact ⟨_, rfl, h⟩
section
variable {prog : Program} {w : World} {A : Around} {E : Value → Shared → Prop} {s : Shared}
theorem callEnumT {l : Addr} {items : Array Value} {Q : Value → Shared → Prop} (hL : s.heap.IsTuple l items)
    (h : ∀ h', IsEnum h' (s.heap.objs.size + 1) s.heap.objs.size 0 .none → h'.IsTupleIter s.heap.objs.size l 0 → h'.objs.size = s.heap.objs.size + 2 →
      (∀ b o, s.heap.get? b = some o → h'.get? b = some o) → Q (.ref (s.heap.objs.size + 1)) { s with heap := h' }) :
    wpAny (model prog w) A (call (.type "enumerate") [.ref l]) Q E s := by
  obtain ⟨⟨c, dct, dt, sl⟩, hl, hc, n, hd⟩ := hL
  replace hc : c = .type "tuple" := hc
  replace hd : dt = .seq items n := hd
  subst hc hd
  refine callType_new F.called_enumerate (by decide) (F.typeCall_enumerate_1 _) (F.newCall_enumerate_1 _) (fun obj => F.args_object_init_2 obj _) F.entry_enumerate_new (meets_enumT l items n dct sl) ⟨hl, ?_⟩
  have hz : (s.heap.push { cls := .type "tuple_iterator", data := .fields #[.ref l, .int 0 0] }).objs.size = s.heap.objs.size + 1 := Heap.size_push ..
  show _ ∧ _
  rw [hz]
  have he : IsEnum ((s.heap.push { cls := .type "tuple_iterator", data := .fields #[.ref l, .int 0 0] }).push
      { cls := .type "enumerate", data := .fields #[.none, .bool false, .ref s.heap.objs.size, rawInt 0, .none, .none] }) (s.heap.objs.size + 1) s.heap.objs.size 0 .none := by
    have q := Heap.get?_push_size (s.heap.push { cls := .type "tuple_iterator", data := .fields #[.ref l, .int 0 0] })
      (o := { cls := .type "enumerate", data := .fields #[.none, .bool false, .ref s.heap.objs.size, rawInt 0, .none, .none] }) rfl
    rw [hz] at q
    exact q
  exact ⟨⟨_, he, rfl⟩, h _ he ⟨_, Heap.get?_push_of_some _ (Heap.get?_push_size _ rfl), rfl, rfl⟩ (by rw [Heap.size_push, hz]) fun b o x => Heap.get?_push_of_some _ (Heap.get?_push_of_some _ x)⟩
end
/-- enumerate(tuple) -/
def IteT (K : PySem.W.Frag) (a : Addr) : It :=
  ⟨fun i H => ∃ (xs : List V) (x : V), SqT K H a xs ∧ xs[i]? = some x, fun i H v H' => ∃ T x, v = .ref T ∧ H T = none ∧ H' = upd H T (.tup [.int (i : Nat), x]) ∧ ∀ xs, SqT K H a xs → xs[i]? = some x, fun i H => ∃ xs : List V, SqT K H a xs ∧ xs.length ≤ i⟩
theorem turn_enumT {P : Program} {w : World} {K : PySem.W.Frag} {elts : List Expr} {kk : Nat} {tpos : Pos} (a e it : Addr) :
    Turn P w K (.Tuple elts kk tpos) (IteT K a) [e, it] e (fun i h => (∃ old, IsEnum h e it ((i : Nat) : Int) old) ∧ h.IsTupleIter it a i ∧ e ≠ it) where
  mem := List.mem_cons_self
  obj := fun i h st b hb => by
    obtain ⟨⟨old, he⟩, ⟨o, ho, hc, hd⟩, _⟩ := st
    rcases List.mem_cons.mp hb with z | z
    · rw [z]
      exact ⟨_, he, fun v q => nomatch q⟩
    · rw [List.mem_singleton.mp z]
      exact ⟨o, ho, fun v q => by rw [hd] at q; cases q⟩
  keep := fun i h h' st k => by
    obtain ⟨⟨old, he⟩, hi, hne⟩ := st
    exact ⟨⟨old, k e List.mem_cons_self _ he⟩, hi.at fun o q => k it (List.mem_cons_of_mem _ (List.mem_singleton.mpr rfl)) o q, hne⟩
  item := by
    intro X hP hw hK hc i pins s σ H E I hf st hg
    subst hP hw hK
    obtain ⟨⟨old, he⟩, hit, hne⟩ := st
    obtain ⟨xs, x, hq, hx⟩ := hg
    obtain ⟨its, rv, p, hz⟩ := I.tuple hq
    obtain ⟨u, hu, ru⟩ := rv.get hx
    have hel : e < s.heap.objs.size := Heap.lt_size he
    obtain ⟨oi, hoi, hoic, hoid⟩ := id hit
    have hil : it < s.heap.objs.size := Heap.lt_size hoi
    obtain ⟨oa, hoa, hoac, _, hoad⟩ := (show s.heap.IsTuple a its.toArray from p)
    have nai : a ≠ it := fun z => by
      rw [z, hoi] at hoa
      cases hoa
      rw [hoad] at hoid
      cases hoid
    have nae : e ≠ a := fun z => by
      have q : s.heap.get? e = some _ := he
      rw [z, hoa] at q
      cases q
      exact absurd (show Value.type "enumerate" = Value.type "tuple" from hoac) (by decide)
    have hlen : i < its.toArray.size := by
      rw [List.size_toArray]
      exact (List.getElem?_eq_some_iff.mp hu).1
    refine wpAny_pyNext_enum_itemD (Draws.tuple (A := X.A.in1) (I.ok.hd hc) it a nai its.toArray) he ⟨hit, p⟩ hlen hne (fun z => ?_) fun v h' tk hv ho hst' hT hsz hk => ?_
    · rcases List.mem_cons.mp z with z | z
      · exact hne z
      · exact nae (List.mem_singleton.mp z)
    obtain ⟨hit', _⟩ := hst'
    have ev : v = u := by
      have q : its.toArray[i]? = some v := hv
      rw [List.getElem?_toArray, hu] at q
      exact (Option.some.inj q).symm
    subst ev
    refine ⟨_, rfl, wpAny_letOwnedTupleGo_enum (s := { s with heap := h', toks := tk + 1 }) ho fun h'' he' sb => ?_⟩
    have hT2 : h''.get? s.heap.objs.size = some { cls := .type "tuple", data := .seq #[.int i tk, v] } := (sb.2 _ (Nat.ne_of_gt hel)).trans hT
    have new : ObjOk X.prog X.w (upd H s.heap.objs.size (.tup [.int (i : Nat), x])) h'' s.heap.objs.size (.tup [.int (i : Nat), x]) :=
      ⟨by show 2 ≤ sizeLine; decide, [.int i tk, v], .cons ⟨_, rfl⟩ (.cons ru .nil), ⟨_, hT2, rfl, _, rfl⟩⟩
    have I1 : Inv X pins σ (upd H s.heap.objs.size (.tup [.int (i : Nat), x])) { s with heap := h'', toks := tk + 1 } :=
      I.turnedNew (ch := [e, it]) (fun b ob hb q => (sb.2 b (fun z => hb (by simp [z]))).trans (hk b ob (fun z => hb (by simp [z])) (fun z => hb (by simp [z])) q)) hf (Nat.le_refl _) new
    refine ⟨.ref s.heap.objs.size, _, I1, rfl, ⟨_, x, rfl, I.hok.fresh (Nat.le_refl _), rfl, fun ys hy => by rw [I.tuple_inj hy hq]; exact hx⟩, ⟨⟨v, ?_⟩, hit'.at fun o q => (sb.2 it (Ne.symm hne)).trans q, hne⟩, fun b hb => ?_⟩
    · have e1 : ((i + 1 : Nat) : Int) = (i : Int) + 1 := by omega
      rw [e1]
      exact he'
    · have hb' : b < s.heap.objs.size := by
        rcases List.mem_cons.mp hb with z | z
        · rw [z]; exact hel
        · rw [List.mem_singleton.mp z]; exact hil
      rw [upd_ne (Nat.ne_of_lt hb')]
      exact (hf b hb).1
  done := by
    intro X hP hw hK hc i pins s σ H E I hf st hg
    subst hP hw hK
    obtain ⟨⟨old, he⟩, hit, hne⟩ := st
    obtain ⟨xs, hq, hx⟩ := hg
    obtain ⟨its, rv, p, hz⟩ := I.tuple hq
    obtain ⟨f0, f1, f2, f3, f4, f5⟩ := hf it (List.mem_cons_of_mem _ (List.mem_singleton.mpr rfl))
    have hl := rv.length
    have hno : its.toArray[i]? = none := by
      rw [List.getElem?_toArray]
      exact List.getElem?_eq_none_iff.mpr (by omega)
    have D0 : Draws X.prog X.w X.A.in1 it [it, a] 0 (fun _ _ => False) (fun _ h => h.IsTupleIter it a i ∧ h.IsTuple a its.toArray) :=
      { live := fun _ _ st => let ⟨o, ho, _⟩ := st.1; ⟨o, ho⟩
        frame := fun _ _ _ st hk => ⟨st.1.at fun o e => hk it List.mem_cons_self o e, st.2.at fun o e => hk a (List.mem_cons_of_mem _ List.mem_cons_self) o e⟩
        item := fun j s Q E hj => absurd hj (Nat.not_lt_zero _)
        done := fun s Q E st hE => wpAny_nextOf_tuple_end (I.ok.hd hc) st.1 st.2 hno hE }
    exact wpAny_pyNext_enum_endD D0 he ⟨hit, p⟩ fun h' eb => ⟨rfl, I.turned (t' := s.toks) (fun b o hb q => eb b o hb q) f0 f1 f3 f4 f5⟩
  self := fun A i s Q E st h => let ⟨⟨_, he⟩, _⟩ := st; wpAny_pyIter_enum he h
def iEnumT (K : PySem.W.Frag) (ta : TA) : TI := fun σ H R => ta σ H fun vs H1 => ∃ a xs, vs = [.ref a] ∧ SqT K H1 a xs ∧ R (IteT K a) H1
theorem pi_enumT {X : Cx} {e : Expr} {ta : TA} {p pos tpos : Pos} {elts : List Expr} {kk : Nat} (hg : Gl X "enumerate") (hm : X.mg "enumerate" = none) (ha : PA X [e] ta) (hs : starEach [e] X.env = [(false, eval e X.env)] := by rfl) :
    PI X (.Tuple elts kk tpos) (.Call (.Name "enumerate" p) [e] [] pos) (iEnumT X.K ta) := by
  refine ⟨fun pins s σ H R I h => ?_⟩
  refine Call_ (ld_blt I hg hm boot_enumerate (PyProof.Rows.callWith_type1 (thn (ha.run pos pins s σ H _ I h) fun us s1 ⟨vs, H1, I1, r1, q1⟩ => ?_) hs rfl))
  obtain ⟨a, xs, ex, hq, q⟩ := q1
  subst ex
  obtain ⟨u, rfl⟩ : ∃ u, us = [u] := by
    cases r1 with
    | cons r rr => cases rr; exact ⟨_, rfl⟩
  obtain rfl : u = Value.ref a := by
    cases r1 with
    | cons r rr => exact r
  obtain ⟨its, rv, p', hz⟩ := I1.tuple hq
  refine callEnumT p' fun h' he hit hsz hk => wpAny_pyIter_enum he ?_
  refine ⟨s1.heap.objs.size + 1, [s1.heap.objs.size + 1, s1.heap.objs.size], _, _, H1, rfl, I1.kept (t' := s1.toks) hk, turn_enumT a (s1.heap.objs.size + 1) s1.heap.objs.size, ⟨⟨.none, he⟩, hit, Nat.succ_ne_self _⟩, fun b hb => ?_, q⟩
  have hle : s1.heap.objs.size ≤ b := by
    rcases List.mem_cons.mp hb with z | z
    · rw [z]
      exact Nat.le_add_right _ _
    · rw [List.mem_singleton.mp z]
      exact Nat.le_refl _
  exact I1.fpOk hle (I1.hok.fresh hle)
end BT

namespace BT
open PySem PySem.Spec PyProof.Rows L2 GenW
/-- the end, with tables of code objects of some defs -/
theorem walk_tabs {l : PySem.W.OpenLaw} {n k : Nat} {q : Program} {loose : List Str} {XP : (Str → Option Value) → Heap → Prop} {YP : World → Heap → Prop} {d : DefRec} {K : Params → PySem.W.Frag} {CX : World → CXT} {x : Str}
    (hn : l.most = some n) (hn2 : n ≤ sizeLine) (hdf : d.params.defaults = []) (hr : Room k callerA) (hY : ∀ (w : World) (h : Heap), YP w h → (K w.params).In h)
    (F : ∀ (w : World) (mg : Str → Option Value) (fa : Addr) (h : Heap), YP w h → (K w.params).In h → h.Ns mainGlobals mg → mg d.name = some (.ref fa) →
      (∀ (y : Str) (c P : Addr), ((recsOf q).find? fun e => e.name == y).isSome = true → PySem.W.tabIn (K w.params) y = some (c, P) → PySem.W.CodeHd h c P ∧ h.get? P = some { cls := .none, data := .fields #[] }) → LamX.LawAtS l w (K w.params) (CX w) k n x mg fa h)
    (hCX : ∀ (w : World) (H : Hp) (s : Shared) (e : Value) (s' : Shared), CX w [] H s (fun _ _ _ => False) e s' → False) :
    PySem.W.WalkO q loose XP YP l.row.toRowW d [] (fun f vs => PySem.call f vs) := by
  refine Att.attach_callB hn hdf fun w s₀ s₁ mg mb fa o pm cd doc a vs ns G Y ho hd hcd hmg hobj hints hlen hbits hg => ?_
  have KX := hY w _ Y
  have tabs : ∀ (y : Str) (c P : Addr), ((recsOf q).find? fun e => e.name == y).isSome = true → PySem.W.tabIn (K w.params) y = some (c, P) → PySem.W.CodeHd s₁.heap c P ∧ s₁.heap.get? P = some { cls := .none, data := .fields #[] } := fun y c P h1 h2 => by
    obtain ⟨e, he⟩ := Option.isSome_iff_exists.mp h1
    exact PySem.W.tab_of G.T KX he h2
  obtain ⟨fd, cs, sp, hT, nT, C, hb, hsp, hF⟩ := F w mg fa _ Y KX G.T.g hmg tabs
  exact LamX.law_callTs KX G.T.g G.T.b G.T.builtins G.T.nolimit hg hT nT C G.T.bmain hobj hints (Nat.le_trans hlen hn2) hr hF hb (fun H hH hS => hsp H a ns hlen hbits hH hS) fun H e s' => hCX w H s₁ e s'
/-- a def whose code object is known -/
theorem Fun.okC {P : Program} {w : World} {K : PySem.W.Frag} {mg : Str → Option Value} {base : Heap} {x qual : Str} {st : Stmt} {f c : Addr} {fd : FuncData} {N ps : List Str} {k : Nat} {sp : Sp} (F : Fun K x qual st f fd) (hc : fd.code = .ref c) (S : FnScope N ps (defScope st)) (len : ∀ vs H Q E, sp vs H Q E → vs.length = ps.length)
    (hbody : ∀ (A : Around) (outer : List Env) (s : Shared) (H : Hp) (vs : List V) (Q : VK) (E : XK), Room k (A.deeper (envOfC qual (defScope st) s.heap.objs.size f (.ref c))) → sp vs H Q E →
      ∃ t, PSs (cxOf CX0 P w K mg base N qual (defScope st) f (.ref c) A outer s H E).nox (defBody st) t ∧ t { nx := fun _ H' => Q .non H', rt := Q } (start N vs) H) : FnOk P w K mg base CX0 (k + 1) f fd ps sp := by
  obtain ⟨oc, od, kV, doc, pm, an, cdv, ct, osl, rfl, lk, hcd⟩ := F.ex
  have e : cdv = .ref c := hc
  subst e
  refine fn_of lk hcd S len fun A outer s H vs Q E hr hsp => ?_
  obtain ⟨t, h, q⟩ := hbody A outer s H vs Q E hr hsp
  exact ⟨t, h.nox, q⟩
/-- a def of the text, as it stands behind the top -/
structure D1 (K : PySem.W.Frag) (mg : Str → Option Value) (x : Str) (st : Stmt) (ps : List Str) where
  f : Addr
  fd : FuncData
  F : Fun K x x st f fd
  g : mg x = some (.ref f)
  b : Binds K fd ps []
def d1_mk {K : PySem.W.Frag} {h : Heap} {mg : Str → Option Value} {x : Str} {st : Stmt} {ps : List Str} {f : Addr} {oc : Value} {od an : Option Addr} {osl : Array (Option Value)} {kV doc pm cdv ct : Value} (X : K.In h) (G : h.Ns mainGlobals mg)
    (a : PySem.W.nsIn K mainGlobals x = some (some (.ref f))) (l : K.lookup f = some ⟨oc, od, .func (PySem.W.fnOf x x (defArgs st) (defBody st) (defScope st) .none kV doc pm an cdv ct), osl⟩) (c : PySem.W.codeIn K cdv x = true) (k : PySem.W.keepIn K (.ref f) = true)
    (hb : ∀ (kV doc pm : Value) (an : Option Addr) (cdv ct : Value) (us : List Value), us.length = ps.length → bindArgs (PySem.W.fnOf x x (defArgs st) (defBody st) (defScope st) .none kV doc pm an cdv ct) ⟨us, []⟩ = pure (ps.zip us)) : D1 K mg x st ps :=
  ⟨f, _, fun_mk l c k, PySem.W.mg_of X G a, (fun_mk l c k).binds hb⟩
theorem toB {base : Heap} {mg : Str → Option Value} {c P : Addr} (t : LamX.TabB base mg c P) : TabB base mg c P := ⟨t.code, t.bm, t.gP⟩
theorem tabG0 {H : Hp} {P : Addr} (h : H P = some (.tbl #[])) : TabG H P := ⟨#[], h, trivial⟩
/-! ### heaps: all but M is kept -/
def Kp (M : List Addr) (H H' : Hp) : Prop := ∀ b o, b ∉ M → H b = some o → H' b = some o
theorem Kp.refl {M : List Addr} (H : Hp) : Kp M H H := fun _ _ _ h => h
theorem Kp.trans {M : List Addr} {a b c : Hp} (x : Kp M a b) (y : Kp M b c) : Kp M a c := fun p o h e => y p o h (x p o h e)
theorem Kp.mono {M M' : List Addr} {a b : Hp} (x : Kp M a b) (h : ∀ p ∈ M, p ∈ M') : Kp M' a b := fun p o hp e => x p o (fun z => hp (h p z)) e
theorem Kp.new {M : List Addr} {H : Hp} {p : Addr} {o : HO} (h : H p = none) : Kp M H (upd H p o) := fun a u _ e => by
  rw [upd_ne (ne_of_none e h)]
  exact e
theorem Kp.wr {M : List Addr} {H H' : Hp} {p : Addr} {o : HO} (x : Kp M H H') (h : p ∈ M) : Kp M H (upd H' p o) := fun a u ha e => by
  rw [upd_ne (fun z => ha (by rw [z]; exact h))]
  exact x a u ha e
/-- what H does not know may change -/
theorem Kp.mut {M : List Addr} {H H' : Hp} {p : Addr} {o : HO} (x : Kp M H H') (h : H p = none) : Kp M H (upd H' p o) := fun a u ha e => by
  rw [upd_ne (ne_of_none e h)]
  exact x a u ha e
theorem Kp.back {H H' : Hp} {p : Addr} (x : Kp [] H H') (h : H' p = none) : H p = none := by
  cases q : H p with
  | none => rfl
  | some o =>
    rw [x p o (fun z => by cases z) q] at h
    cases h
theorem Kp.backM {M : List Addr} {H H' : Hp} {p : Addr} (x : Kp M H H') (hm : p ∉ M) (h : H' p = none) : H p = none := by
  cases q : H p with
  | none => rfl
  | some o =>
    rw [x p o hm q] at h
    cases h
theorem Kp.l {K : PySem.W.Frag} {M : List Addr} {H H' : Hp} {a : Addr} {xs : List V} (x : Kp M H H') (ha : a ∉ M) (h : SqL K H a xs) : SqL K H' a xs := by
  rcases h with (h | ⟨o, h⟩) | h
  · exact .inl (.inl (x a _ ha h))
  · exact .inl (.inr ⟨o, x a _ ha h⟩)
  · exact .inr h
theorem Kp.t {K : PySem.W.Frag} {M : List Addr} {H H' : Hp} {a : Addr} {xs : List V} (x : Kp M H H') (ha : a ∉ M) (h : SqT K H a xs) : SqT K H' a xs := by
  rcases h with (h | ⟨o, h⟩) | h
  · exact .inl (.inl (x a _ ha h))
  · exact .inl (.inr ⟨o, x a _ ha h⟩)
  · exact .inr h
theorem lOf {K : PySem.W.Frag} {H : Hp} {a : Addr} {xs : List V} (h : H a = some (.lst xs)) : SqL K H a xs := .inl (.inl h)
theorem tOf {K : PySem.W.Frag} {H : Hp} {a : Addr} {xs : List V} (h : H a = some (.tup xs)) : SqT K H a xs := .inl (.inl h)
/-! ### data -/
theorem dpAll_ints {K : PySem.W.Frag} {H : Hp} : ∀ ns : List Int, DpAll K H (ns.map V.int) (ns.map PyData.int)
  | [] => .nil
  | n :: r => .cons (.int n) (dpAll_ints r)
theorem eqv_nil : ∀ ns : List Int, PyData.eqv (.list (ns.map PyData.int)) (.list []) = ns.isEmpty
  | [] => rfl
  | n :: r => rfl
theorem shaped_ints (ns : List Int) : SeqAt.shaped (.list (ns.map PyData.int)) = true := by
  induction ns with
  | nil => rfl
  | cons n r ih => exact ih
/-! ### the deck that is a dict -/
abbrev dkv (c : Addr) (sd a : Int) : List (Key × V) := [(.inr "cells", .ref c), (.inr "seed", .int sd), (.inr "at", .int a)]
theorem kne1 : ¬ (Sum.inr (Str.ofString "cells") : Key) = Sum.inr (Str.ofString "seed") := by decide +kernel
theorem kne2 : ¬ (Sum.inr (Str.ofString "cells") : Key) = Sum.inr (Str.ofString "at") := by decide +kernel
theorem kne3 : ¬ (Sum.inr (Str.ofString "seed") : Key) = Sum.inr (Str.ofString "at") := by decide +kernel
theorem dk_cells {c : Addr} {sd a : Int} : valV (dkv c sd a) (.inr "cells") = some (.ref c) := valV_pos rfl
theorem dk_seed {c : Addr} {sd a : Int} : valV (dkv c sd a) (.inr "seed") = some (.int sd) := (valV_neg kne1).trans (valV_pos rfl)
theorem dk_at {c : Addr} {sd a : Int} : valV (dkv c sd a) (.inr "at") = some (.int a) := (valV_neg kne2).trans ((valV_neg kne3).trans (valV_pos rfl))
theorem dk_put {c : Addr} {sd a b : Int} : putK (dkv c sd a) (.inr "at") (.int b) = dkv c sd b := by
  unfold putK dkv
  rw [if_pos (by simp)]
  have e1 : ¬ Str.ofString "cells" = Str.ofString "at" := by decide +kernel
  have e2 : ¬ Str.ofString "seed" = Str.ofString "at" := by decide +kernel
  simp [e1, e2]
def Dk (d c : Addr) (H : Hp) : Prop := ∃ (cells : List Int) (sd a : Int), H d = some (.dK (dkv c sd a)) ∧ H c = some (.lst (cells.map V.int)) ∧ cells.length ≤ 63
theorem Dk.ne {d c : Addr} {H : Hp} (h : Dk d c H) : d ≠ c := by
  obtain ⟨_, _, _, h1, h2, _⟩ := h
  exact ne_of h1 h2 (by intro z; cases z)
theorem Dk.kp {d c : Addr} {M : List Addr} {H H' : Hp} (h : Dk d c H) (k : Kp M H H') (hd : d ∉ M) (hc : c ∉ M) : Dk d c H' := by
  obtain ⟨cs, sd, a, h1, h2, h3⟩ := h
  exact ⟨cs, sd, a, k _ _ hd h1, k _ _ hc h2, h3⟩
end BT
namespace BT
open PySem PySem.Spec PyProof.Rows L2 GenW
theorem dgAt {H : Hp} {d c : Addr} {sd a : Int} (h : H d = some (.dK (dkv c sd a))) : DGet H d (.str "at") (some (.int a)) := by
  have z := DGet.k (k := .inr "at") h
  rw [dk_at] at z
  exact z
theorem dgSeed {H : Hp} {d c : Addr} {sd a : Int} (h : H d = some (.dK (dkv c sd a))) : DGet H d (.str "seed") (some (.int sd)) := by
  have z := DGet.k (k := .inr "seed") h
  rw [dk_seed] at z
  exact z
theorem dgCells {H : Hp} {d c : Addr} {sd a : Int} (h : H d = some (.dK (dkv c sd a))) : DGet H d (.str "cells") (some (.ref c)) := by
  have z := DGet.k (k := .inr "cells") h
  rw [dk_cells] at z
  exact z
theorem dpAt {H : Hp} {d c : Addr} {sd a b : Int} (h : H d = some (.dK (dkv c sd a))) : DPut H d (.str "at") (.int b) (upd H d (.dK (dkv c sd b))) := by
  have z := DPut.k (k := .inr "at") (v := .int b) h (by show 3 < sizeLine; decide)
  rw [dk_put] at z
  exact z
theorem kp2 {d c : Addr} {H H' : Hp} (h : ∀ b o, b ≠ d → b ≠ c → H b = some o → H' b = some o) : Kp [d, c] H H' := fun b o hb e => h b o (fun z => hb (by rw [z]; exact List.mem_cons_self)) (fun z => hb (by rw [z]; exact List.mem_cons_of_mem _ (List.mem_singleton.mpr rfl))) e
theorem fmod_lt {x m : Int} (h : 0 < m) : 0 ≤ x.fmod m ∧ x.fmod m < m := by
  rw [Int.fmod_eq_emod_of_nonneg _ (Int.le_of_lt h)]
  exact ⟨Int.emod_nonneg _ (by omega), Int.emod_lt_of_pos _ h⟩
theorem cmulL {i j : Int} (h1 : -(2 ^ 64) < i) (h2 : i < 2 ^ 64) : CMul i j := .inl ⟨h1, h2⟩
theorem cmulR {i j : Int} (h1 : -(2 ^ 64) < j) (h2 : j < 2 ^ 64) : CMul i j := .inr ⟨h1, h2⟩
theorem modm {x m : Int} (h : 0 < m) : 0 ≤ x % m ∧ x % m < m := ⟨Int.emod_nonneg _ (by omega), Int.emod_lt_of_pos _ h⟩
end BT

namespace BT
open PySem PySem.Spec PyProof.Rows L2 GenW
theorem walk_enumT {K : PySem.W.Frag} {a : Addr} {xs : List V} : Walk (IteT K a) xs.length (fun H => SqT K H a xs) (YPair (fun i => some (.int (i : Nat))) (fun i => xs[i]?)) := by
  refine ⟨fun i _ hi q => ⟨xs, xs[i], q, List.getElem?_eq_getElem hi⟩, fun _ q => ⟨xs, q, Nat.le_refl _⟩, fun i H v H' _ q y => ?_⟩
  obtain ⟨T, x, h1, h2, h3, h4⟩ := y
  exact ⟨T, .int (i : Nat), x, h1, h2, h3, rfl, h4 xs q⟩
theorem walk_zipT {K : PySem.W.Frag} {a b : Addr} {xs ys : List V} {n : Nat} (hn : n = min xs.length ys.length) : Walk (RZ.ItzT K a b) n (fun H => SqT K H a xs ∧ SqT K H b ys) (YPair (fun i => xs[i]?) (fun i => ys[i]?)) := by
  subst hn
  refine ⟨fun i _ hi q => ?_, fun _ q => ⟨xs, ys, q.1, q.2, by omega⟩, fun i H v H' _ q y => ?_⟩
  · have h1 : i < xs.length := by omega
    have h2 : i < ys.length := by omega
    exact ⟨xs, ys, xs[i], ys[i], q.1, q.2, List.getElem?_eq_getElem h1, List.getElem?_eq_getElem h2⟩
  · obtain ⟨T, x, z, h1, h2, h3, h4, h5⟩ := y
    exact ⟨T, x, z, h1, h2, h3, h4 xs q.1, h5 ys q.2⟩
section
variable {J : It} {n : Nat} {G : Hp → Prop} {Y : Nat → Hp → V → Hp → Prop}
theorem tup_nx {n : Nat} {ys : List V} {y : V} {H : Hp} {Pv : List V → Hp → Prop} (hn : n < sizeLine) (hlt : ys.length < n) (h : Pv (ys ++ [y]) H) : ys.length < sizeLine ∧ (ys ++ [y]).length ≤ n ∧ Pv (ys ++ [y]) H :=
  ⟨by omega, by rw [List.length_append]; exact hlt, h⟩
theorem tup_it (w : Walk J n G Y) {g : TG} {te : TE} {σg : L2.St} {Q : VK} {H2 : Hp} (Pv : List V → Hp → Prop) (h0 : Pv [] H2) (hG : ∀ ys H, ys.length ≤ n → Pv ys H → G H)
    (hs : ∀ ys x H H', ys.length < n → Pv ys H → Y ys.length H x H' → g x σg H' fun σ2 H3 => Le σg σ2 ∧ te σ2 H3 fun y H4 => ys.length < sizeLine ∧ (ys ++ [y]).length ≤ n ∧ Pv (ys ++ [y]) H4) (hd : ∀ ys H p, ys.length = n → Pv ys H → H p = none → Q (.ref p) (upd H p (.tup ys))) :
    ∃ W Fin Out, W [] H2 ∧ GStep J g te σg W Fin Out ∧ RcT Q W Fin Out := by
  refine tup_by (fun ys H => ys.length ≤ n ∧ Pv ys H) ⟨Nat.zero_le _, h0⟩ fun ys H hW => ?_
  obtain ⟨hl, hp⟩ := hW
  have q := hG ys H hl hp
  by_cases hlt : ys.length < n
  · exact .inr ⟨w.goes _ H hlt q, fun x H' y => hs ys x H H' hlt hp (w.yields _ H x H' hlt q y)⟩
  · have e : ys.length = n := by omega
    exact .inl ⟨by rw [e]; exact w.stops H q, fun p np => hd ys H p e hp np⟩
theorem all_it (w : Walk J n G Y) (hn : n < sizeLine) {g : TG} {te : TE} {σg : L2.St} {Q : VK} {H2 : Hp} (Pv : Nat → Hp → Prop) (h0 : Pv 0 H2) (hG : ∀ i H, i ≤ n → Pv i H → G H)
    (hs : ∀ i x H H', i < n → Pv i H → Y i H x H' → g x σg H' fun σ2 H3 => Le σg σ2 ∧ te σ2 H3 fun y H4 => i < sizeLine ∧ ∃ b, y = .bl b ∧ if b = true then (i + 1 ≤ n ∧ Pv (i + 1) H4) else Q (.bl false) H4) (hd : ∀ H, Pv n H → Q (.bl true) H) :
    ∃ W Fin Out, W [] H2 ∧ GStep J g te σg W Fin Out ∧ RcA Q W Fin Out := by
  refine all_by (fun i H => i ≤ n ∧ Pv i H) ⟨Nat.zero_le _, h0⟩ fun ys H hW => ?_
  obtain ⟨hl, hp⟩ := hW
  have q := hG _ H hl hp
  by_cases hlt : ys.length < n
  · exact .inr ⟨w.goes _ H hlt q, fun x H' y => hs _ x H H' hlt hp (w.yields _ H x H' hlt q y)⟩
  · have e : ys.length = n := by omega
    exact .inl ⟨by rw [e]; exact w.stops H q, hd H (by rw [← e]; exact hp)⟩
end
/-! ### least places -/
def ov : Option Int → V
  | none => .non
  | some n => .int n
theorem ov_inj {a b : Option Int} (h : ov a = ov b) : a = b := by
  cases a <;> cases b <;> simp_all [ov]
def IsL (last : Bool) (row : List (Option Int)) (m k : Nat) : Prop := k < m ∧ ∃ x, row[k]? = some (some x) ∧ ∀ (j : Nat) (y : Int), j < m → row[j]? = some (some y) → x ≤ y ∧ (y = x → if last = true then j ≤ k else k ≤ j)
def LeU (last : Bool) (row : List (Option Int)) (m : Nat) (v : V) : Prop := (v = .non ∧ ∀ (j : Nat) (y : Int), j < m → row[j]? = some (some y) → False) ∨ ∃ k : Nat, v = .int k ∧ IsL last row m k
theorem LeU.uniq {last : Bool} {row : List (Option Int)} {m : Nat} {v v' : V} (h : LeU last row m v) (h' : LeU last row m v') : v = v' := by
  rcases h with ⟨rfl, h⟩ | ⟨k, rfl, hk, x, hx, hh⟩
  · rcases h' with ⟨rfl, h'⟩ | ⟨k', rfl, hk', x', hx', hh'⟩
    · rfl
    · exact (h k' x' hk' hx').elim
  · rcases h' with ⟨rfl, h'⟩ | ⟨k', rfl, hk', x', hx', hh'⟩
    · exact (h' k x hk hx).elim
    · have a1 := hh k' x' hk' hx'
      have a2 := hh' k x hk hx
      have e : x' = x := by omega
      have b1 := a1.2 e
      have b2 := a2.2 e.symm
      have : k = k' := by
        cases last
        · simp at b1 b2; omega
        · simp at b1 b2; omega
      rw [this]
theorem LeU.zero {last : Bool} {row : List (Option Int)} : LeU last row 0 .non := .inl ⟨rfl, fun j y h => absurd h (Nat.not_lt_zero _)⟩
theorem LeU.skip {last : Bool} {row : List (Option Int)} {m : Nat} {v : V} (h : LeU last row m v) (hn : row[m]? = some none) : LeU last row (m + 1) v := by
  rcases h with ⟨rfl, h⟩ | ⟨k, rfl, hk, x, hx, hh⟩
  · refine .inl ⟨rfl, fun j y hj hy => ?_⟩
    by_cases e : j = m
    · subst e; rw [hn] at hy; cases hy
    · exact h j y (by omega) hy
  · refine .inr ⟨k, rfl, by omega, x, hx, fun j y hj hy => ?_⟩
    by_cases e : j = m
    · subst e; rw [hn] at hy; cases hy
    · exact hh j y (by omega) hy
theorem LeU.first {last : Bool} {row : List (Option Int)} {m : Nat} {n : Int} (h : LeU last row m .non) (hn : row[m]? = some (some n)) : LeU last row (m + 1) (.int m) := by
  rcases h with ⟨_, h⟩ | ⟨k, e, _⟩
  · refine .inr ⟨m, rfl, by omega, n, hn, fun j y hj hy => ?_⟩
    by_cases e : j = m
    · subst e; rw [hn] at hy; cases hy
      exact ⟨Int.le_refl _, fun _ => by cases last <;> simp⟩
    · exact (h j y (by omega) hy).elim
  · cases e
theorem LeU.take {last : Bool} {row : List (Option Int)} {m k : Nat} {n x : Int} (h : LeU last row m (.int k)) (hx : row[k]? = some (some x)) (hn : row[m]? = some (some n)) (hc : n < x ∨ (n = x ∧ last = true)) : LeU last row (m + 1) (.int m) := by
  rcases h with ⟨e, _⟩ | ⟨k', e, hk, x', hx', hh⟩
  · cases e
  · have ek : k = k' := by have := V.int.inj e; omega
    subst ek
    rw [hx] at hx'
    cases hx'
    refine .inr ⟨m, rfl, by omega, n, hn, fun j y hj hy => ?_⟩
    by_cases ej : j = m
    · subst ej; rw [hn] at hy; cases hy
      exact ⟨Int.le_refl _, fun _ => by cases last <;> simp⟩
    · have a := hh j y (by omega) hy
      refine ⟨by omega, fun e2 => ?_⟩
      rcases hc with hc | ⟨hc, hl⟩
      · omega
      · rw [hl]; simp; omega
theorem LeU.stay {last : Bool} {row : List (Option Int)} {m k : Nat} {n x : Int} (h : LeU last row m (.int k)) (hx : row[k]? = some (some x)) (hn : row[m]? = some (some n)) (hc : ¬ (n < x ∨ (n = x ∧ last = true))) : LeU last row (m + 1) (.int k) := by
  rcases h with ⟨e, _⟩ | ⟨k', e, hk, x', hx', hh⟩
  · cases e
  · have ek : k = k' := by have := V.int.inj e; omega
    subst ek
    rw [hx] at hx'
    cases hx'
    refine .inr ⟨k, rfl, by omega, x, hx, fun j y hj hy => ?_⟩
    by_cases ej : j = m
    · subst ej; rw [hn] at hy; cases hy
      refine ⟨by omega, fun e2 => ?_⟩
      cases last
      · simp; omega
      · exact (hc (.inr ⟨e2, rfl⟩)).elim
    · exact hh j y (by omega) hy
theorem LeU.at {last : Bool} {row : List (Option Int)} {m : Nat} {v : V} (h : LeU last row m v) (hv : v ≠ .non) : ∃ (k : Nat) (x : Int), v = .int k ∧ k < m ∧ row[k]? = some (some x) := by
  rcases h with ⟨e, _⟩ | ⟨k, e, hk, x, hx, _⟩
  · exact (hv e).elim
  · exact ⟨k, x, e, hk, hx⟩
/-! ### tables -/
def TabAt (H : Hp) (a : Addr) (rows : List (List (Option Int))) : Prop := ∃ ps : List Addr, H a = some (.tup (ps.map V.ref)) ∧ ps.length = rows.length ∧ ∀ (i : Nat) (b : Addr) (row : List (Option Int)), ps[i]? = some b → rows[i]? = some row → H b = some (.tup (row.map ov))
/-- no tuple stands at these -/
def NT (M : List Addr) (H : Hp) : Prop := ∀ m ∈ M, ∀ xs, H m ≠ some (.tup xs)
theorem NT.nil {H : Hp} : NT [] H := fun m hm => by cases hm
theorem NT.ni {M : List Addr} {H : Hp} {a : Addr} {xs : List V} (h : NT M H) (e : H a = some (.tup xs)) : a ∉ M := fun z => h a z xs e
theorem TabAt.kp {H H' : Hp} {a : Addr} {rows : List (List (Option Int))} {M : List Addr} (h : TabAt H a rows) (k : Kp M H H') (n : NT M H) : TabAt H' a rows := by
  obtain ⟨ps, h1, h2, h3⟩ := h
  exact ⟨ps, k _ _ (n.ni h1) h1, h2, fun i b row e1 e2 => k _ _ (n.ni (h3 i b row e1 e2)) (h3 i b row e1 e2)⟩
theorem NT.tab {H : Hp} {P : Addr} (h : TabG H P) : NT [P] H := fun m hm xs z => by
  obtain ⟨ps, hp, _⟩ := h
  rw [List.mem_singleton.mp hm, hp] at z
  cases z
theorem NT.dk {H : Hp} {d c : Addr} (h : Dk d c H) : NT [d, c] H := fun m hm xs z => by
  obtain ⟨_, _, _, h1, h2, _⟩ := h
  rcases List.mem_cons.mp hm with e | e
  · rw [e, h1] at z; cases z
  · rw [List.mem_singleton.mp e, h2] at z; cases z
theorem TabG.kp {H H' : Hp} {P : Addr} {M : List Addr} (h : TabG H P) (k : Kp M H H') (hm : P ∉ M) : TabG H' P := by
  obtain ⟨ps, hp, ht⟩ := h
  exact ⟨ps, k _ _ hm hp, ht⟩
theorem Tabbed.kp {P : Addr} {H H' : Hp} (t : Tabbed P H H') : Kp [P] H H' := fun b o hb e => by
  rw [t.2 b (fun z => hb (by rw [z]; exact List.mem_singleton.mpr rfl))]
  exact e
theorem TabG.nd {H : Hp} {P d c : Addr} (h : TabG H P) (hd : Dk d c H) : P ∉ [d, c] := fun z => by
  obtain ⟨ps, hp, _⟩ := h
  obtain ⟨_, _, _, h1, h2, _⟩ := hd
  rcases List.mem_cons.mp z with e | e
  · rw [e, h1] at hp; cases hp
  · rw [List.mem_singleton.mp e, h2] at hp; cases hp
end BT

namespace BT
open PySem PySem.Spec PyProof.Rows L2 GenW
/-- a comprehension: what stands in its list behind each turn; what it leaves alone is M -/
theorem lc_acc {J : It} {n : Nat} {G : Hp → Prop} {Y : Nat → Hp → V → Hp → Prop} (w : Walk J n G Y) {g : TG} {tt : TT} {te : TE} {vs : List Nat} {σ : L2.St} {H1 : Hp} {D : Addr} {Qd : Hp → Prop} (M : List Addr) (Iv : Hp → Prop) (acc : Nat → List V → Prop) (nD : H1 D = none) (hM : D ∉ M) (hn : n < sizeLine)
    (hacc : ∀ i xs, acc i xs → xs.length ≤ i) (h0 : acc 0 []) (i0 : Iv (upd H1 D (.lst []))) (hG : ∀ H, Iv H → Kp M H1 H → G H)
    (hs : ∀ i x H H' xs, i < n → acc i xs → Iv H → H D = some (.lst xs) → Kp M H1 H → Y i H x H' → g x (wipe σ vs) H' fun σ2 H2 => wipe σ2 vs = wipe σ vs ∧ tt σ2 H2 fun b H3 =>
      if b = true then te σ2 H3 fun y H4 => H4 D = some (.lst xs) ∧ acc (i + 1) (xs ++ [y]) ∧ (∀ o, Iv (upd H4 D o)) ∧ Kp M H1 H4 else (H3 D = some (.lst xs) ∧ acc (i + 1) xs ∧ Iv H3 ∧ Kp M H1 H3))
    (hte : ∀ σ H (R R' : VK), (∀ v H', R v H' → R' v H') → te σ H R → te σ H R') (htt : ∀ σ H (R R' : Bool → Hp → Prop), (∀ v H', R v H' → R' v H') → tt σ H R → tt σ H R') (hg : ∀ x σ H (R R' : L2.St → Hp → Prop), (∀ a b, R a b → R' a b) → g x σ H R → g x σ H R')
    (hd : ∀ H xs, acc n xs → Iv H → H D = some (.lst xs) → Kp M H1 H → Qd H) :
    ∃ W : Nat → Nat → Hp → Prop, (∃ m, W 0 m (upd H1 D (.lst []))) ∧ ∀ i m H, W i m H →
      (J.stop i H ∧ Qd H) ∨ (J.go i H ∧ ∃ Nx : Hp → Prop, (∀ H', Nx H' → ∃ m', m' < m ∧ W (i + 1) m' H') ∧ ∀ x H', J.yld i H x H' → g x (wipe σ vs) H' fun σ2 H2 => wipe σ2 vs = wipe σ vs ∧ tt σ2 H2 fun b H3 =>
        if b = true then te σ2 H3 fun y H4 => ∃ acc, H4 D = some (.lst acc) ∧ acc.length < sizeLine ∧ Nx (upd H4 D (.lst (acc ++ [y]))) else Nx H3) := by
  refine lc_it w (fun i H => ∃ xs, acc i xs ∧ Iv H ∧ H D = some (.lst xs) ∧ Kp M H1 H) ⟨[], h0, i0, upd_same, Kp.new nD⟩ (fun i H hi hp => ?_) (fun i x H H' hi hp hy => ?_) fun H hp => ?_
  · obtain ⟨xs, _, q1, _, q2⟩ := hp
    exact hG H q1 q2
  · obtain ⟨xs, p1, p2, p3, p4⟩ := hp
    refine hg _ _ _ _ _ (fun σ2 H2 z => ⟨z.1, htt _ _ _ _ (fun b H3 z2 => ?_) z.2⟩) (hs i x H H' xs hi p1 p2 p3 p4 hy)
    cases b with
    | true =>
      refine iteT (hte _ _ _ _ (fun y H4 z3 => ?_) ((if_pos rfl).mp z2))
      exact ⟨xs, z3.1, by have := hacc i xs p1; omega, xs ++ [y], z3.2.1, z3.2.2.1 _, upd_same, z3.2.2.2.mut nD⟩
    | false =>
      have z3 := (if_neg Bool.false_ne_true).mp z2
      exact iteF ⟨xs, z3.2.1, z3.2.2.1, z3.1, z3.2.2.2⟩
  · obtain ⟨xs, p1, p2, p3, p4⟩ := hp
    exact hd H xs p1 p2 p3 p4
/-! ### lists of places -/
theorem range_up (n : Nat) : (List.range n).Pairwise (· < ·) := List.pairwise_lt_range
theorem filt_mem {n : Nat} {p : Nat → Bool} {k : Nat} : k ∈ (List.range n).filter p ↔ k < n ∧ p k = true := by
  rw [List.mem_filter, List.mem_range]
theorem filt_first {n : Nat} {p : Nat → Bool} {k : Nat} {t : List Nat} (h : (List.range n).filter p = k :: t) : k < n ∧ p k = true ∧ ∀ j, j < n → p j = true → k ≤ j := by
  have hp : ((List.range n).filter p).Pairwise (· < ·) := (range_up n).sublist List.filter_sublist
  have hk : k ∈ (List.range n).filter p := by rw [h]; exact List.mem_cons_self
  refine ⟨(filt_mem.mp hk).1, (filt_mem.mp hk).2, fun j hj hpj => ?_⟩
  have hm : j ∈ (List.range n).filter p := filt_mem.mpr ⟨hj, hpj⟩
  rw [h] at hm hp
  rcases List.mem_cons.mp hm with e | e
  · omega
  · exact Nat.le_of_lt ((List.pairwise_cons.mp hp).1 j e)
theorem filt_last {n : Nat} {p : Nat → Bool} {k : Nat} {t : List Nat} (h : (List.range n).filter p = t ++ [k]) : k < n ∧ p k = true ∧ ∀ j, j < n → p j = true → j ≤ k := by
  have hp : ((List.range n).filter p).Pairwise (· < ·) := (range_up n).sublist List.filter_sublist
  have hk : k ∈ (List.range n).filter p := by rw [h]; simp
  refine ⟨(filt_mem.mp hk).1, (filt_mem.mp hk).2, fun j hj hpj => ?_⟩
  have hm : j ∈ (List.range n).filter p := filt_mem.mpr ⟨hj, hpj⟩
  rw [h] at hm hp
  rcases List.mem_append.mp hm with e | e
  · exact Nat.le_of_lt ((List.pairwise_append.mp hp).2.2 j e k (by simp))
  · rw [List.mem_singleton.mp e]
    exact Nat.le_refl _
theorem filt_succ {n : Nat} {p : Nat → Bool} : (List.range (n + 1)).filter p = (List.range n).filter p ++ (if p n = true then [n] else []) := by
  rw [List.range_succ, List.filter_append]
  cases h : p n <;> simp [h]
theorem filt_len (n : Nat) (p : Nat → Bool) : ((List.range n).filter p).length ≤ n := by
  have h := List.length_filter_le p (List.range n)
  rw [List.length_range] at h
  exact h
def isNum (row : List (Option Int)) (k : Nat) : Bool := match row[k]? with
  | some (some _) => true
  | _ => false
theorem isNum_of {row : List (Option Int)} {k : Nat} {x : Int} (h : row[k]? = some (some x)) : isNum row k = true := by unfold isNum; rw [h]
theorem isNum_to {row : List (Option Int)} {k : Nat} (h : isNum row k = true) : ∃ x, row[k]? = some (some x) := by
  unfold isNum at h
  split at h
  · exact ⟨_, by assumption⟩
  · cases h
theorem isNum_no {row : List (Option Int)} {k : Nat} (h : row[k]? = some none) : isNum row k = false := by unfold isNum; rw [h]
abbrev ivs (l : List Nat) : List V := l.map fun (k : Nat) => V.int (k : Int)
theorem ivs_ints (l : List Nat) : ivs l = (l.map fun (k : Nat) => (k : Int)).map V.int := by
  simp [ivs]
end BT

namespace BT
open PySem PySem.Spec PyProof.Rows L2 GenW
/-! the same rules, the written part named (a comprehension's reading may not name its block) -/
theorem ixTK {X : Cx} (K : PySem.W.Frag) (h : X.K = K := by rfl) : IxR X (rIxT K) := by subst h; exact ix_tup
theorem ixLK {X : Cx} (K : PySem.W.Frag) (h : X.K = K := by rfl) : IxR X (rIxL K) := by subst h; exact ix_list
theorem lenK {X : Cx} (K : PySem.W.Frag) (h : X.K = K := by rfl) : CallR X (.builtin "len") (fun xs H Q => ∃ p ys, xs = [.ref p] ∧ (SqL K H p ys ∨ SqT K H p ys) ∧ Q (.int ys.length) H) := by subst h; exact call_len_seq
theorem tupK {X : Cx} (K : PySem.W.Frag) (h : X.K = K := by rfl) : CallR X (.type "tuple") (fun xs H Q => ∃ p ys, xs = [.ref p] ∧ ((SqL K H p ys ∧ ∀ l, H l = none → Q (.ref l) (upd H l (.tup ys))) ∨ (SqT K H p ys ∧ Q (.ref p) H))) := by subst h; exact call_tuple_of
theorem lisK {X : Cx} (K : PySem.W.Frag) (h : X.K = K := by rfl) : CallR X (.type "list") (fun xs H Q => ∃ p ys, xs = [.ref p] ∧ (SqL K H p ys ∨ SqT K H p ys) ∧ ∀ l, H l = none → Q (.ref l) (upd H l (.lst ys))) := by subst h; exact call_list_of
theorem eqDK {X : Cx} (K : PySem.W.Frag) (hu : X.A.units + 64 < cLine) (h : X.K = K := by rfl) : OpR X (compareOp .Eq) (rEqD K) := by subst h; exact op_eqD hu
theorem neDK {X : Cx} (K : PySem.W.Frag) (hu : X.A.units + 64 < cLine) (h : X.K = K := by rfl) : OpR X (compareOp .NotEq) (rNeD K) := by subst h; exact op_neD hu
theorem slLK {X : Cx} (K : PySem.W.Frag) (h : X.K = K := by rfl) : SlR X (rSlL K) := by subst h; exact sl_list
theorem minK {X : Cx} (K : PySem.W.Frag) (hc : X.calm = true) (h : X.K = K := by rfl) : CallR X (.builtin "min") (rMin K) := by subst h; exact cr_min hc
theorem allK {X : Cx} (K : PySem.W.Frag) (hc : X.calm = true) (h : X.K = K := by rfl) : CallR X (.builtin "all") (rAll K) := by subst h; exact cr_all hc
theorem isiK {X : Cx} (K : PySem.W.Frag) (h : X.K = K := by rfl) : CallR X (.builtin "isinstance") (rIsi K) := by subst h; exact call_isi
theorem piLK {X : Cx} {tg l : Expr} {tl : TE} (K : PySem.W.Frag) (hl : PE X l tl) (h : X.K = K := by rfl) : PI X tg l (iList K tl) := by subst h; exact pi_list hl
theorem piTK {X : Cx} {tg l : Expr} {tl : TE} (K : PySem.W.Frag) (hl : PE X l tl) (h : X.K = K := by rfl) : PI X tg l (iTup K tl) := by subst h; exact pi_tup hl
end BT

namespace BT
open PySem PySem.Spec PyProof.Rows L2 GenW
theorem cut_to (xs : List V) (n : Nat) : cutV xs none (some (n : Int)) = xs.take n := by
  unfold cutV
  rw [show HT.sIx xs.length 0 none = 0 from HT.sIx_none xs.length 0, show HT.sIx xs.length xs.length (some (n : Int)) = min n xs.length from HT.sIx_nat xs.length _ n]
  show (xs.drop 0).take (min n xs.length - 0) = xs.take n
  rw [List.drop_zero, Nat.sub_zero]
  rcases Nat.le_total n xs.length with h | h
  · rw [Nat.min_eq_left h]
  · rw [Nat.min_eq_right h, List.take_length, List.take_of_length_le h]
theorem cut_from (xs : List V) (n : Nat) (hn : n ≤ xs.length) : cutV xs (some (n : Int)) none = xs.drop n := by
  unfold cutV
  rw [show HT.sIx xs.length 0 (some (n : Int)) = min n xs.length from HT.sIx_nat xs.length 0 n, show HT.sIx xs.length xs.length none = xs.length from HT.sIx_none xs.length _, Nat.min_eq_left hn]
  exact List.take_of_length_le (by rw [List.length_drop]; exact Nat.le_refl _)
theorem at4 {a b c e s : Int} (h0 : 0 ≤ s) (h1 : s < 4) : ∃ z : Int, atI [V.int a, V.int b, V.int c, V.int e] s = some (V.int z) := by
  rcases (show s = 0 ∨ s = 1 ∨ s = 2 ∨ s = 3 by omega) with rfl | rfl | rfl | rfl
  · exact ⟨a, atI_nat (j := 0) rfl⟩
  · exact ⟨b, atI_nat (j := 1) rfl⟩
  · exact ⟨c, atI_nat (j := 2) rfl⟩
  · exact ⟨e, atI_nat (j := 3) rfl⟩
theorem Dk.ni {d c p : Addr} {H : Hp} (h : Dk d c H) (np : H p = none) : p ∉ [d, c] := fun z => by
  obtain ⟨_, _, _, h1, h2, _⟩ := h
  rcases List.mem_cons.mp z with e | e
  · rw [e, h1] at np; cases np
  · rw [List.mem_singleton.mp e, h2] at np; cases np
theorem Dk.new {d c p : Addr} {H : Hp} {o : HO} (h : Dk d c H) (np : H p = none) : Dk d c (upd H p o) := h.kp (M := []) (Kp.new np) (by simp) (by simp)
theorem Dk.up {d c p : Addr} {H : Hp} {o : HO} (h : Dk d c H) (np : p ∉ [d, c]) : Dk d c (upd H p o) := by
  obtain ⟨cs, sd, a, h1, h2, h3⟩ := h
  refine ⟨cs, sd, a, ?_, ?_, h3⟩
  · rw [upd_ne (fun z => np (by rw [← z]; exact List.mem_cons_self))]; exact h1
  · rw [upd_ne (fun z => np (by rw [← z]; exact List.mem_cons_of_mem _ (List.mem_singleton.mpr rfl)))]; exact h2
theorem p6 : (10 : Int) ^ ((6 : Int).toNat) = 1000000 := by decide
end BT

namespace BT
open PySem PySem.Spec PyProof.Rows L2 GenW
abbrev Rows := List (List (Option Int))
def cell (rows : Rows) (i k : Nat) : Option Int := ((rows[i]?).bind fun r => r[k]?).join
/-- no two rows and two columns are crooked there -/
def Okq (rows : Rows) (i j k l : Nat) : Prop := ∀ a b, cell rows i l = some a → cell rows j k = some b → ∃ x y, cell rows i k = some x ∧ cell rows j l = some y ∧ x + y ≤ a + b
def Bend (rows : Rows) : Prop := ∀ i j k l : Nat, i < j → k < l → Okq rows i j k l
theorem cell_of {rows : Rows} {i k : Nat} {r : List (Option Int)} {v : Option Int} (h1 : rows[i]? = some r) (h2 : r[k]? = some v) : cell rows i k = v := by
  unfold cell
  rw [h1]
  show (r[k]?).join = v
  rw [h2]
  rfl
theorem cell_some {rows : Rows} {i k : Nat} {a : Int} (h : cell rows i k = some a) : ∃ r, rows[i]? = some r ∧ r[k]? = some (some a) := by
  unfold cell at h
  cases e : rows[i]? with
  | none => rw [e] at h; cases h
  | some r =>
    rw [e] at h
    refine ⟨r, rfl, ?_⟩
    have h' : (r[k]?).join = some a := h
    cases e2 : r[k]? with
    | none => rw [e2] at h'; cases h'
    | some v => rw [e2] at h'; cases h'; rfl
/-- rows of one width, all numbers, neighbours alone -/
def Fullw (rows : Rows) (w : Nat) : Prop := ∀ r ∈ rows, r.length = w ∧ ∀ k, k < w → ∃ x, r[k]? = some (some x)
def Nb (r r' : List (Option Int)) : Prop := ∀ (k : Nat) (a b a' b' : Int), r[k]? = some (some a) → r[k + 1]? = some (some b) → r'[k]? = some (some a') → r'[k + 1]? = some (some b') → b' + a ≤ b + a'
def Nbs (rows : Rows) : Prop := ∀ (i : Nat) r r', rows[i]? = some r → rows[i + 1]? = some r' → Nb r r'
theorem nb_far {r r' : List (Option Int)} {w : Nat} (h : Nb r r') (f : ∀ k, k < w → ∃ x, r[k]? = some (some x)) (f' : ∀ k, k < w → ∃ x, r'[k]? = some (some x)) :
    ∀ (m k : Nat) (a b a' b' : Int), k + m < w → r[k]? = some (some a) → r[k + m]? = some (some b) → r'[k]? = some (some a') → r'[k + m]? = some (some b') → b' + a ≤ b + a'
  | 0, k, a, b, a', b', _, h1, h2, h3, h4 => by
    rw [Nat.add_zero] at h2 h4
    rw [h1] at h2
    rw [h3] at h4
    cases h2
    cases h4
    omega
  | m + 1, k, a, b, a', b', hk, h1, h2, h3, h4 => by
    obtain ⟨x, hx⟩ := f (k + m) (by omega)
    obtain ⟨x', hx'⟩ := f' (k + m) (by omega)
    have e1 := nb_far h f f' m k a x a' x' (by omega) h1 hx h3 hx'
    have e2 := h (k + m) x b x' b' hx (by rw [Nat.add_assoc]; exact h2) hx' (by rw [Nat.add_assoc]; exact h4)
    omega
theorem full_at {rows : Rows} {w i : Nat} {r : List (Option Int)} (F : Fullw rows w) (h : rows[i]? = some r) : r.length = w ∧ ∀ k, k < w → ∃ x, r[k]? = some (some x) := F r (List.mem_of_getElem? h)
theorem bend_rows {rows : Rows} {w : Nat} (F : Fullw rows w) (N : Nbs rows) : ∀ (m i : Nat) (r r' : List (Option Int)), rows[i]? = some r → rows[i + m]? = some r' →
    ∀ (k n : Nat) (a b a' b' : Int), k + n < w → r[k]? = some (some a) → r[k + n]? = some (some b) → r'[k]? = some (some a') → r'[k + n]? = some (some b') → b' + a ≤ b + a'
  | 0, i, r, r', h1, h2, k, n, a, b, a', b', _, e1, e2, e3, e4 => by
    rw [Nat.add_zero, h1] at h2
    cases h2
    rw [e1] at e3
    rw [e2] at e4
    cases e3
    cases e4
    omega
  | m + 1, i, r, r', h1, h2, k, n, a, b, a', b', hk, e1, e2, e3, e4 => by
    have hl : i + m < rows.length := by
      have := (List.getElem?_eq_some_iff.mp h2).1
      omega
    have hm := List.getElem?_eq_getElem hl
    obtain ⟨x, hx⟩ := (full_at F hm).2 k (by omega)
    obtain ⟨y, hy⟩ := (full_at F hm).2 (k + n) hk
    have z1 := bend_rows F N m i r _ h1 hm k n a b x y hk e1 e2 hx hy
    have z2 := nb_far (N (i + m) _ r' hm (by rw [Nat.add_assoc]; exact h2)) (full_at F hm).2 (full_at F h2).2 n k x y a' b' hk hx hy e3 e4
    omega
/-- what is picked by places that never fall bends -/
theorem bend_pick {rows out : Rows} {w : Nat} (F : Fullw rows w) (N : Nbs rows) (f : Nat → Nat) (hf : ∀ i j, i < j → f i ≤ f j) (hp : ∀ i r, out[i]? = some r → rows[f i]? = some r) : Bend out := by
  intro i j k l hij hkl a b ha hb
  obtain ⟨r, h1, h2⟩ := cell_some ha
  obtain ⟨r', h3, h4⟩ := cell_some hb
  have q1 := hp i r h1
  have q2 := hp j r' h3
  have hle := hf i j hij
  have hlw : l < w := by
    have := (List.getElem?_eq_some_iff.mp h2).1
    rw [(full_at F q1).1] at this
    exact this
  obtain ⟨x, hx⟩ := (full_at F q1).2 k (by omega)
  obtain ⟨y, hy⟩ := (full_at F q2).2 l hlw
  refine ⟨x, y, cell_of h1 hx, cell_of h3 hy, ?_⟩
  obtain ⟨m, hm⟩ : ∃ m, f j = f i + m := ⟨f j - f i, by omega⟩
  obtain ⟨n, hn⟩ : ∃ n, l = k + n := ⟨l - k, by omega⟩
  subst hn
  have := bend_rows F N m (f i) r r' q1 (by rw [← hm]; exact q2) k n x a b y hlw hx h2 h4 hy
  omega
/-- stretches that step right are left of what bends -/
theorem bend_cut {rows out : Rows} (h : Bend rows) (fl : Nat → Nat × Nat) (h1 : ∀ i j, i < j → j < out.length → (fl i).1 ≤ (fl j).1) (h2 : ∀ i j, i < j → j < out.length → (fl i).2 ≤ (fl j).2)
    (hc : ∀ i k, i < out.length → cell out i k = if (fl i).1 ≤ k ∧ k ≤ (fl i).2 then cell rows i k else none) : Bend out := by
  intro i j k l hij hkl a b ha hb
  obtain ⟨r', e3, _⟩ := cell_some hb
  have hj := (List.getElem?_eq_some_iff.mp e3).1
  have a1 := h1 i j hij hj
  have a2 := h2 i j hij hj
  rw [hc i l (by omega)] at ha
  rw [hc j k hj] at hb
  by_cases c1 : (fl i).1 ≤ l ∧ l ≤ (fl i).2
  · by_cases c2 : (fl j).1 ≤ k ∧ k ≤ (fl j).2
    · rw [if_pos c1] at ha
      rw [if_pos c2] at hb
      obtain ⟨x, y, hx, hy, hxy⟩ := h i j k l hij hkl a b ha hb
      refine ⟨x, y, ?_, ?_, hxy⟩
      · rw [hc i k (by omega), if_pos (by omega)]
        exact hx
      · rw [hc j l hj, if_pos (by omega)]
        exact hy
    · rw [if_neg c2] at hb; cases hb
  · rw [if_neg c1] at ha; cases ha
/-- a row without numbers put in -/
theorem bend_insert {rows : Rows} (h : Bend rows) (n w : Nat) (hn : n ≤ rows.length) : Bend (rows.take n ++ List.replicate w none :: rows.drop n) := by
  have key : ∀ i k a, cell (rows.take n ++ List.replicate w none :: rows.drop n) i k = some a → (i < n ∧ cell rows i k = some a) ∨ (n < i ∧ cell rows (i - 1) k = some a) := fun i k a ha => by
    obtain ⟨r, e1, e2⟩ := cell_some ha
    have ht : (rows.take n).length = n := by rw [List.length_take]; omega
    rcases Nat.lt_trichotomy i n with c | c | c
    · rw [List.getElem?_append_left (by omega), List.getElem?_take_of_lt c] at e1
      exact .inl ⟨c, cell_of e1 e2⟩
    · subst c
      rw [List.getElem?_append_right (by omega), ht, Nat.sub_self] at e1
      cases e1
      rw [List.getElem?_replicate] at e2
      split at e2 <;> cases e2
    · rw [List.getElem?_append_right (by omega), ht] at e1
      obtain ⟨m, rfl⟩ : ∃ m, i = n + m + 1 := ⟨i - n - 1, by omega⟩
      rw [show n + m + 1 - n = m + 1 by omega, List.getElem?_cons_succ, List.getElem?_drop] at e1
      exact .inr ⟨by omega, by rw [show n + m + 1 - 1 = n + m by omega]; exact cell_of e1 e2⟩
  have low : ∀ i k, i < n → cell (rows.take n ++ List.replicate w none :: rows.drop n) i k = cell rows i k := fun i k c => by
    have ht : (rows.take n).length = n := by rw [List.length_take]; omega
    unfold cell
    rw [List.getElem?_append_left (by omega), List.getElem?_take_of_lt c]
  have high : ∀ i k, n < i → cell (rows.take n ++ List.replicate w none :: rows.drop n) i k = cell rows (i - 1) k := fun i k c => by
    have ht : (rows.take n).length = n := by rw [List.length_take]; omega
    obtain ⟨m, rfl⟩ : ∃ m, i = n + m + 1 := ⟨i - n - 1, by omega⟩
    unfold cell
    rw [List.getElem?_append_right (by omega), ht, show n + m + 1 - n = m + 1 by omega, List.getElem?_cons_succ, List.getElem?_drop, show n + m + 1 - 1 = n + m by omega]
  intro i j k l hij hkl a b ha hb
  rcases key i l a ha with ⟨c1, z1⟩ | ⟨c1, z1⟩ <;> rcases key j k b hb with ⟨c2, z2⟩ | ⟨c2, z2⟩
  · obtain ⟨x, y, hx, hy, hxy⟩ := h i j k l hij hkl a b z1 z2
    exact ⟨x, y, by rw [low i k c1]; exact hx, by rw [low j l c2]; exact hy, hxy⟩
  · obtain ⟨x, y, hx, hy, hxy⟩ := h i (j - 1) k l (by omega) hkl a b z1 z2
    exact ⟨x, y, by rw [low i k c1]; exact hx, by rw [high j l c2]; exact hy, hxy⟩
  · omega
  · obtain ⟨x, y, hx, hy, hxy⟩ := h (i - 1) (j - 1) k l (by omega) hkl a b z1 z2
    exact ⟨x, y, by rw [high i k c1]; exact hx, by rw [high j l c2]; exact hy, hxy⟩
/-! ### least places of what bends -/
theorem bend_step {rows : Rows} {last : Bool} (h : Bend rows) {i j : Nat} {r r' : List (Option Int)} {p p' : Nat} (hij : i < j) (h1 : rows[i]? = some r) (h2 : rows[j]? = some r') (l1 : LeU last r r.length (.int p)) (l2 : LeU last r' r'.length (.int p')) : p ≤ p' := by
  rcases l1 with ⟨e, _⟩ | ⟨q, e, hq, x, hx, hh⟩
  · cases e
  rcases l2 with ⟨e', _⟩ | ⟨q', e', hq', x', hx', hh'⟩
  · cases e'
  have ep : p = q := by have := V.int.inj e; omega
  have ep' : p' = q' := by have := V.int.inj e'; omega
  subst ep ep'
  rcases Nat.lt_or_ge p' p with c | c
  · exfalso
    obtain ⟨y, z, hy, hz, hyz⟩ := h i j p' p hij c x x' (cell_of h1 hx) (cell_of h2 hx')
    obtain ⟨s1, t1, u1⟩ := cell_some hy
    obtain ⟨s2, t2, u2⟩ := cell_some hz
    rw [h1] at t1
    rw [h2] at t2
    cases t1
    cases t2
    have g1 := hh p' y (List.getElem?_eq_some_iff.mp u1).1 u1
    have g2 := hh' p z (List.getElem?_eq_some_iff.mp u2).1 u2
    have ey : y = x := by omega
    have ez : z = x' := by omega
    cases last
    · have := g1.2 ey
      simp at this
      omega
    · have := g2.2 ez
      simp at this
      omega
  · exact c
theorem first_last {r : List (Option Int)} {p p' : Nat} (l1 : LeU false r r.length (.int p)) (l2 : LeU true r r.length (.int p')) : p ≤ p' := by
  rcases l1 with ⟨e, _⟩ | ⟨q, e, hq, x, hx, hh⟩
  · cases e
  rcases l2 with ⟨e', _⟩ | ⟨q', e', hq', x', hx', hh'⟩
  · cases e'
  have ep : p = q := by have := V.int.inj e; omega
  have ep' : p' = q' := by have := V.int.inj e'; omega
  subst ep ep'
  have g1 := hh p' x' hq' hx'
  have g2 := hh' p x hq hx
  have := g1.2 (by omega)
  simpa using this
theorem none_both {r : List (Option Int)} {v v' : V} {a b : Bool} (l1 : LeU a r r.length v) (l2 : LeU b r r.length v') : (v = .non ↔ v' = .non) := by
  rcases l1 with ⟨rfl, h⟩ | ⟨k, rfl, hk, x, hx, _⟩ <;> rcases l2 with ⟨rfl, h'⟩ | ⟨k', rfl, hk', x', hx', _⟩
  · simp
  · exact (h k' x' hk' hx').elim
  · exact (h' k x hk hx).elim
  · simp
end BT

namespace BT
open PySem PySem.Spec PyProof.Rows L2 GenW
theorem at_i {xs : List V} {z : Int} {n : Nat} {v : V} (e : z = n) (h : xs[n]? = some v) : atI xs z = some v := by
  subst e
  exact atI_nat h
theorem at_m1 {xs : List V} {n : Nat} {v : V} (e : xs.length = n + 1) (h : xs[n]? = some v) : atI xs (-1) = some v := by
  have hne : xs ≠ [] := fun z => by rw [z] at e; cases e
  have hc := (List.dropLast_concat_getLast hne).symm
  have hl : xs.getLast hne = v := by
    have := List.getLast_eq_getElem hne
    rw [this]
    have h1 : xs.length - 1 = n := by omega
    have h2 := (List.getElem?_eq_some_iff.mp h).2
    simp only [h1]
    exact h2
  rw [hl] at hc
  rw [hc]
  exact atI_last _ _
theorem at4n {a b c e s : Int} (h0 : 0 ≤ s) (h1 : s < 4) (ha : 0 ≤ a) (hb : 0 ≤ b) (hc : 0 ≤ c) (he : 0 ≤ e) : ∃ z : Int, 0 ≤ z ∧ atI [V.int a, V.int b, V.int c, V.int e] s = some (V.int z) := by
  rcases (show s = 0 ∨ s = 1 ∨ s = 2 ∨ s = 3 by omega) with rfl | rfl | rfl | rfl
  · exact ⟨a, ha, atI_nat (j := 0) rfl⟩
  · exact ⟨b, hb, atI_nat (j := 1) rfl⟩
  · exact ⟨c, hc, atI_nat (j := 2) rfl⟩
  · exact ⟨e, he, atI_nat (j := 3) rfl⟩
/-! ### a list of lists -/
def LAt (M : List Addr) (H : Hp) (R : Addr) (rows : Rows) : Prop := R ∉ M ∧ ∃ ps : List Addr, H R = some (.lst (ps.map V.ref)) ∧ ps.length = rows.length ∧ (∀ b ∈ ps, b ∉ M) ∧ ∀ (i : Nat) (b : Addr) (row : List (Option Int)), ps[i]? = some b → rows[i]? = some row → H b = some (.lst (row.map ov))
theorem LAt.kp {M : List Addr} {H H' : Hp} {R : Addr} {rows : Rows} (h : LAt M H R rows) (k : Kp M H H') : LAt M H' R rows := by
  obtain ⟨h0, ps, h1, h2, h3, h4⟩ := h
  exact ⟨h0, ps, k _ _ h0 h1, h2, h3, fun i b row e1 e2 => k _ _ (h3 b (List.mem_of_getElem? e1)) (h4 i b row e1 e2)⟩
theorem LAt.nr {H : Hp} {R b : Addr} {ps : List Addr} {row : List (Option Int)} (h1 : H R = some (.lst (ps.map V.ref))) (h2 : 0 < ps.length) (h3 : H b = some (.lst (row.map ov))) : b ≠ R := fun z => by
  rw [z, h1] at h3
  have e : ps.map V.ref = row.map ov := HO.lst.inj (Option.some.inj h3)
  cases ps with
  | nil => cases h2
  | cons p r =>
    cases row with
    | nil => cases e
    | cons x y =>
      rw [List.map_cons, List.map_cons] at e
      have e1 := (List.cons.inj e).1
      cases x <;> cases e1
/-- one more row behind -/
theorem LAt.push {M : List Addr} {H : Hp} {R b : Addr} {rows : Rows} {ps : List Addr} {row : List (Option Int)} (h0 : R ∉ M) (h1 : H R = some (.lst (ps.map V.ref))) (h2 : ps.length = rows.length) (h3 : ∀ b ∈ ps, b ∉ M) (h4 : ∀ (i : Nat) (b : Addr) (row : List (Option Int)), ps[i]? = some b → rows[i]? = some row → H b = some (.lst (row.map ov)))
    (hb : b ∉ M) (hbr : H b = some (.lst (row.map ov))) (hne : b ≠ R) : LAt M (upd H R (.lst (ps.map V.ref ++ [.ref b]))) R (rows ++ [row]) := by
  refine ⟨h0, ps ++ [b], ?_, ?_, ?_, ?_⟩
  · rw [upd_same, List.map_append]; rfl
  · rw [List.length_append, List.length_append, h2]; rfl
  · intro p hp
    rcases List.mem_append.mp hp with z | z
    · exact h3 p z
    · rw [List.mem_singleton.mp z]; exact hb
  · intro i p r e1 e2
    by_cases hi : i < ps.length
    · rw [List.getElem?_append_left hi] at e1
      rw [List.getElem?_append_left (by omega)] at e2
      have z := h4 i p r e1 e2
      rw [upd_ne (LAt.nr h1 (by omega) z)]
      exact z
    · have hil : i < (ps ++ [b]).length := (List.getElem?_eq_some_iff.mp e1).1
      rw [List.length_append] at hil
      have ei : i = ps.length := by simp at hil; omega
      subst ei
      rw [List.getElem?_append_right (Nat.le_refl _), Nat.sub_self] at e1
      rw [List.getElem?_append_right (by omega), show ps.length - rows.length = 0 by omega] at e2
      cases e1
      cases e2
      rw [upd_ne hne]
      exact hbr
end BT

namespace BT
open PySem PySem.Spec PyProof.Rows L2 GenW
def rSq (K : PySem.W.Frag) : R2 := fun x y H Q => ∃ p xs i v, x = .ref p ∧ y = .int i ∧ (SqL K H p xs ∨ SqT K H p xs) ∧ atI xs i = some v ∧ Q v H
theorem ixSK {X : Cx} (K : PySem.W.Frag) (h : X.K = K := by rfl) : IxR X (rSq K) := by
  subst h
  intro value slice pins s σ H x y v u Q I rx ry q hs
  obtain ⟨p, xs, i, w, e1, e2, e3, e4, e5⟩ := q
  rcases e3 with e3 | e3
  · exact ix_list value slice pins s σ H x y v u Q I rx ry ⟨p, xs, i, w, e1, e2, e3, e4, e5⟩ hs
  · exact ix_tup value slice pins s σ H x y v u Q I rx ry ⟨p, xs, i, w, e1, e2, e3, e4, e5⟩ hs
theorem sorK {X : Cx} (K : PySem.W.Frag) (h : X.K = K := by rfl) : CallR X (.builtin "sorted") (rSorted K) := by subst h; exact cr_sorted
theorem pzTK {X : Cx} {e e2 : Expr} {ta : TA} {p pos tpos : Pos} {elts : List Expr} {kk : Nat} (K : PySem.W.Frag) (hg : Gl X "zip") (hm : X.mg "zip" = none) (ha : PA X [e, e2] ta)
    (hs : starEach [e, e2] X.env = (false, eval e X.env) :: starEach [e2] X.env := by rfl) (hpl : (backTo pos (starEach [e2] X.env)).any (·.1) = false := by rfl) (h : X.K = K := by rfl) :
    PI X (.Tuple elts kk tpos) (.Call (.Name "zip" p) [e, e2] [] pos) (RZ.iZipA K ta) := by subst h; exact RZ.pi_zipA hg hm ha hs hpl
theorem pgTK {X : Cx} {es : List Expr} {k : Nat} {t : TGs} {n : Nat} {pos : Pos} (K : PySem.W.Frag) (hc : X.calm = true) (h : PGs X es t) (hn : (assignEach es X.env).length = n := by rfl) (hst : (assignEach es X.env).findIdx? (·.1) = none := by rfl) (hK : X.K = K := by rfl) : PG X (.Tuple es k pos) (gTup K n t) := by subst hK; exact pg_tup hc h hn hst
/-- rows, in lists or in tuples -/
def SqA (K : PySem.W.Frag) (H : Hp) (a : Addr) (xs : List V) : Prop := SqL K H a xs ∨ SqT K H a xs
def RowsAt (K : PySem.W.Frag) (H : Hp) (a : Addr) (rows : Rows) : Prop := ∃ ps : List Addr, SqA K H a (ps.map V.ref) ∧ ps.length = rows.length ∧ ∀ (i : Nat) (b : Addr) (row : List (Option Int)), ps[i]? = some b → rows[i]? = some row → SqA K H b (row.map ov)
theorem LAt.rows {K : PySem.W.Frag} {M : List Addr} {H : Hp} {R : Addr} {rows : Rows} (h : LAt M H R rows) : RowsAt K H R rows := by
  obtain ⟨h0, ps, h1, h2, h3, h4⟩ := h
  exact ⟨ps, .inl (lOf h1), h2, fun i b row e1 e2 => .inl (lOf (h4 i b row e1 e2))⟩
theorem TabAt.rows {K : PySem.W.Frag} {H : Hp} {R : Addr} {rows : Rows} (h : TabAt H R rows) : RowsAt K H R rows := by
  obtain ⟨ps, h1, h2, h4⟩ := h
  exact ⟨ps, .inr (tOf h1), h2, fun i b row e1 e2 => .inr (tOf (h4 i b row e1 e2))⟩
theorem okq_oj {rows : Rows} {i j k l : Nat} (h : rows.length ≤ j) : Okq rows i j k l := fun a b _ hb => by
  obtain ⟨r, e, _⟩ := cell_some hb
  have := (List.getElem?_eq_some_iff.mp e).1
  omega
theorem okq_ol {rows : Rows} {i j k l w : Nat} (hw : ∀ r ∈ rows, r.length = w) (h : w ≤ l) : Okq rows i j k l := fun a b ha _ => by
  obtain ⟨r, e, e2⟩ := cell_some ha
  have h1 := (List.getElem?_eq_some_iff.mp e2).1
  have h2 := hw r (List.mem_of_getElem? e)
  omega
theorem RowsAt.at {K : PySem.W.Frag} {H : Hp} {rows : Rows} {w : Nat} {ps : List Addr} (hl : ps.length = rows.length) (hb : ∀ (i : Nat) (b : Addr) (row : List (Option Int)), ps[i]? = some b → rows[i]? = some row → SqA K H b (row.map ov)) (hw : ∀ r ∈ rows, r.length = w) {i k : Nat} {zi zk : Int} (ei : zi = i) (ek : zk = k) (hi : i < rows.length) (hk : k < w) :
    ∃ (b : Addr) (row : List (Option Int)), atI (ps.map V.ref) zi = some (.ref b) ∧ SqA K H b (row.map ov) ∧ atI (row.map ov) zk = some (ov (cell rows i k)) := by
  have h1 : ps[i]? = some ps[i] := List.getElem?_eq_getElem (by omega)
  have h2 : rows[i]? = some rows[i] := List.getElem?_eq_getElem hi
  have h3 : rows[i].length = w := hw _ (List.getElem_mem _)
  have h4 : rows[i][k]? = some rows[i][k] := List.getElem?_eq_getElem (by omega)
  refine ⟨ps[i], rows[i], at_i ei (by rw [List.getElem?_map, h1]; rfl), hb i _ _ h1 h2, at_i ek ?_⟩
  rw [cell_of h2 h4, List.getElem?_map, h4]
  rfl
end BT

namespace BT
open PySem PySem.Spec PyProof.Rows L2 GenW
def cutRow (f l w : Nat) (r : List (Option Int)) : List (Option Int) := List.replicate f none ++ (r.drop f).take (l + 1 - f) ++ List.replicate (w - 1 - l) none
theorem cutRow_len {f l w : Nat} {r : List (Option Int)} (h : r.length = w) (h1 : f ≤ l) (h2 : l < w) : (cutRow f l w r).length = w := by
  unfold cutRow
  rw [List.length_append, List.length_append, List.length_replicate, List.length_replicate, List.length_take, List.length_drop]
  omega
theorem cutRow_at {f l w : Nat} {r : List (Option Int)} (h : r.length = w) (h1 : f ≤ l) (h2 : l < w) (k : Nat) : ((cutRow f l w r)[k]?).join = if f ≤ k ∧ k ≤ l then (r[k]?).join else none := by
  unfold cutRow
  have ht : ((r.drop f).take (l + 1 - f)).length = l + 1 - f := by rw [List.length_take, List.length_drop]; omega
  by_cases c1 : k < f
  · rw [List.append_assoc, List.getElem?_append_left (by rw [List.length_replicate]; exact c1), List.getElem?_replicate, if_pos c1, if_neg (by omega)]
    rfl
  · by_cases c2 : k ≤ l
    · rw [List.getElem?_append_left (by rw [List.length_append, List.length_replicate, ht]; omega), List.getElem?_append_right (by rw [List.length_replicate]; omega), List.length_replicate, List.getElem?_take_of_lt (by omega), List.getElem?_drop, show f + (k - f) = k by omega, if_pos (by omega)]
    · rw [List.getElem?_append_right (by rw [List.length_append, List.length_replicate, ht]; omega), List.getElem?_replicate, if_neg (show ¬ (f ≤ k ∧ k ≤ l) by omega)]
      split <;> rfl
theorem cut_mid {r : List (Option Int)} {f l w : Nat} (h : r.length = w) (h1 : f ≤ l) (h2 : l < w) : cutV (r.map ov) (some (f : Int)) (some ((l : Int) + 1)) = ((r.drop f).take (l + 1 - f)).map ov := by
  have e : (l : Int) + 1 = ((l + 1 : Nat) : Int) := by omega
  rw [e]
  unfold cutV
  rw [show HT.sIx (r.map ov).length 0 (some (f : Int)) = min f (r.map ov).length from HT.sIx_nat (r.map ov).length 0 f, show HT.sIx (r.map ov).length (r.map ov).length (some ((l + 1 : Nat) : Int)) = min (l + 1) (r.map ov).length from HT.sIx_nat (r.map ov).length _ (l + 1), List.length_map, h, Nat.min_eq_left (by omega), Nat.min_eq_left (by omega), List.map_take, List.map_drop]
theorem rep_non (n : Nat) : (List.replicate n [V.non]).flatten = (List.replicate n (none : Option Int)).map ov := by
  induction n with
  | zero => rfl
  | succ n ih => rw [List.replicate_succ, List.flatten_cons, ih, List.replicate_succ]; rfl
theorem cell_row {rows : Rows} {i k : Nat} {r : List (Option Int)} (h : rows[i]? = some r) : cell rows i k = (r[k]?).join := by
  unfold cell
  rw [h]
  rfl
theorem cut_bend {rows out : Rows} {w many : Nat} {fl : Nat → Nat × Nat} (hb : Bend rows) (hm : rows.length = many) (hw : ∀ r ∈ rows, r.length = w) (ho : out.length = many) (h1 : ∀ i, i < many → (fl i).1 ≤ (fl i).2 ∧ (fl i).2 < w)
    (h2 : ∀ i j, i < j → j < many → (fl i).1 ≤ (fl j).1 ∧ (fl i).2 ≤ (fl j).2) (hc : ∀ m r, m < many → rows[m]? = some r → out[m]? = some (cutRow (fl m).1 (fl m).2 w r)) : Bend out ∧ ∀ r ∈ out, r.length = w := by
  refine ⟨bend_cut hb fl (fun i j a b => (h2 i j a (by omega)).1) (fun i j a b => (h2 i j a (by omega)).2) fun i k hi => ?_, fun r hr => ?_⟩
  · have e : rows[i]? = some rows[i] := List.getElem?_eq_getElem (by omega)
    rw [cell_row (hc i _ (by omega) e), cell_row e]
    exact cutRow_at (hw _ (List.getElem_mem _)) (h1 i (by omega)).1 (h1 i (by omega)).2 k
  · obtain ⟨i, hi, rfl⟩ := List.getElem_of_mem hr
    have e : rows[i]? = some rows[i] := List.getElem?_eq_getElem (by omega)
    have z := hc i _ (by omega) e
    rw [List.getElem?_eq_getElem hi] at z
    rw [Option.some.inj z]
    exact cutRow_len (hw _ (List.getElem_mem _)) (h1 i (by omega)).1 (h1 i (by omega)).2
/-- one row put otherwise -/
theorem LAt.set {M : List Addr} {H : Hp} {R b : Addr} {rows : Rows} {ps : List Addr} {row : List (Option Int)} {n : Nat} (hn : n < ps.length) (h0 : R ∉ M) (h1 : H R = some (.lst (ps.map V.ref))) (h2 : ps.length = rows.length) (h3 : ∀ b ∈ ps, b ∉ M) (h4 : ∀ (i : Nat) (b : Addr) (row : List (Option Int)), ps[i]? = some b → rows[i]? = some row → H b = some (.lst (row.map ov)))
    (hb : b ∉ M) (hbr : H b = some (.lst (row.map ov))) : LAt M (upd H R (.lst ((ps.map V.ref).set n (.ref b)))) R (rows.set n row) := by
  refine ⟨h0, ps.set n b, ?_, ?_, ?_, ?_⟩
  · rw [upd_same, List.map_set]
  · rw [List.length_set, List.length_set, h2]
  · intro p hp
    rcases List.mem_or_eq_of_mem_set hp with z | z
    · exact h3 p z
    · rw [z]; exact hb
  · intro i p r e1 e2
    by_cases hi : n = i
    · subst hi
      rw [List.getElem?_set_self hn] at e1
      rw [List.getElem?_set_self (by omega)] at e2
      cases e1
      cases e2
      rw [upd_ne (LAt.nr h1 (by omega) hbr)]
      exact hbr
    · rw [List.getElem?_set_ne hi] at e1 e2
      have z := h4 i p r e1 e2
      rw [upd_ne (LAt.nr h1 (by omega) z)]
      exact z
theorem ins_at {α : Type} (xs : List α) (n : Nat) (y : α) (hn : n ≤ xs.length) (i : Nat) : (xs.take n ++ y :: xs.drop n)[i]? = if i < n then xs[i]? else if i = n then some y else xs[i - 1]? := by
  have ht : (xs.take n).length = n := by rw [List.length_take]; omega
  by_cases c : i < n
  · rw [if_pos c, List.getElem?_append_left (by omega), List.getElem?_take_of_lt c]
  · rw [if_neg c, List.getElem?_append_right (by omega), ht]
    by_cases c2 : i = n
    · rw [if_pos c2, c2, Nat.sub_self]; rfl
    · rw [if_neg c2]
      obtain ⟨m, rfl⟩ : ∃ m, i = n + m + 1 := ⟨i - n - 1, by omega⟩
      rw [show n + m + 1 - n = m + 1 by omega, List.getElem?_cons_succ, List.getElem?_drop, show n + m + 1 - 1 = n + m by omega]
/-- one row put in -/
theorem LAt.ins {M : List Addr} {H : Hp} {R b : Addr} {rows : Rows} {ps : List Addr} {row : List (Option Int)} {n : Nat} (hn : n ≤ ps.length) (hp : 0 < ps.length) (h0 : R ∉ M) (h1 : H R = some (.lst (ps.map V.ref))) (h2 : ps.length = rows.length) (h3 : ∀ b ∈ ps, b ∉ M) (h4 : ∀ (i : Nat) (b : Addr) (row : List (Option Int)), ps[i]? = some b → rows[i]? = some row → H b = some (.lst (row.map ov)))
    (hb : b ∉ M) (hbr : H b = some (.lst (row.map ov))) : LAt M (upd H R (.lst ((ps.map V.ref).take n ++ [.ref b] ++ (ps.map V.ref).drop n))) R (rows.take n ++ row :: rows.drop n) := by
  refine ⟨h0, ps.take n ++ b :: ps.drop n, ?_, ?_, ?_, ?_⟩
  · rw [upd_same, List.map_append, List.map_cons, List.map_take, List.map_drop, List.append_assoc]
    rfl
  · rw [List.length_append, List.length_append, List.length_cons, List.length_cons, List.length_take, List.length_take, List.length_drop, List.length_drop, h2]
  · intro p hp
    rcases List.mem_append.mp hp with z | z
    · exact h3 p (List.mem_of_mem_take z)
    · rcases List.mem_cons.mp z with z | z
      · rw [z]; exact hb
      · exact h3 p (List.mem_of_mem_drop z)
  · intro i p r e1 e2
    rw [ins_at _ _ _ hn] at e1
    rw [ins_at _ _ _ (by omega)] at e2
    by_cases c : i < n
    · rw [if_pos c] at e1 e2
      have z := h4 i p r e1 e2
      rw [upd_ne (LAt.nr h1 hp z)]
      exact z
    · rw [if_neg c] at e1 e2
      by_cases c2 : i = n
      · rw [if_pos c2] at e1 e2
        cases e1
        cases e2
        rw [upd_ne (LAt.nr h1 hp hbr)]
        exact hbr
      · rw [if_neg c2] at e1 e2
        have z := h4 _ p r e1 e2
        rw [upd_ne (LAt.nr h1 hp z)]
        exact z
theorem ixN_nat {n j : Nat} (h : j < n) : ixN n (j : Int) = some j := by
  unfold ixN
  simp
  omega
end BT

namespace K16
open PySem PySem.Spec PyProof.Rows L2 GenW BT
def topS (i : Nat) : Stmt := PySem.Challenge.pw_bendtables_k16_least_places_step_right.main.body.getD i (.Pass ⟨0, 0, 0, 0⟩)
abbrev s_least_places : Stmt := topS 1
abbrev p_least_places : List Str := ["table", "side"]
abbrev n_least_places : List Str := ["table", "side"]
theorem sc_least_places : FnScope n_least_places p_least_places (defScope s_least_places) := ⟨rfl, rfl, rfl, by decide +kernel, rfl, by decide +kernel, by decide +kernel⟩
abbrev s_least_place : Stmt := topS 2
abbrev p_least_place : List Str := ["row", "side"]
abbrev n_least_place : List Str := ["row", "side", "place", "column", "number"]
theorem sc_least_place : FnScope n_least_place p_least_place (defScope s_least_place) := ⟨rfl, rfl, rfl, by decide +kernel, rfl, by decide +kernel, by decide +kernel⟩
abbrev s_law_deck : Stmt := topS 4
abbrev p_law_deck : List Str := ["_law_script"]
abbrev n_law_deck : List Str := ["_law_script", "_law_cells", "_law_seed", "_law_cell"]
theorem sc_law_deck : FnScope n_law_deck p_law_deck (defScope s_law_deck) := ⟨rfl, rfl, rfl, by decide +kernel, rfl, by decide +kernel, by decide +kernel⟩
abbrev s_law_draw : Stmt := topS 5
abbrev p_law_draw : List Str := ["_law_deck_here", "_law_most"]
abbrev n_law_draw : List Str := ["_law_deck_here", "_law_most", "_law_cell", "_law_far"]
theorem sc_law_draw : FnScope n_law_draw p_law_draw (defScope s_law_draw) := ⟨rfl, rfl, rfl, by decide +kernel, rfl, by decide +kernel, by decide +kernel⟩
abbrev s_law_size : Stmt := topS 6
abbrev p_law_size : List Str := ["_law_deck_here"]
abbrev n_law_size : List Str := ["_law_deck_here"]
theorem sc_law_size : FnScope n_law_size p_law_size (defScope s_law_size) := ⟨rfl, rfl, rfl, by decide +kernel, rfl, by decide +kernel, by decide +kernel⟩
abbrev s_law_number : Stmt := topS 7
abbrev p_law_number : List Str := ["_law_deck_here", "_law_scale"]
abbrev n_law_number : List Str := ["_law_deck_here", "_law_scale"]
theorem sc_law_number : FnScope n_law_number p_law_number (defScope s_law_number) := ⟨rfl, rfl, rfl, by decide +kernel, rfl, by decide +kernel, by decide +kernel⟩
abbrev s_law_bending : Stmt := topS 8
abbrev p_law_bending : List Str := ["_law_deck_here", "_law_many", "_law_wide"]
abbrev n_law_bending : List Str := ["_law_deck_here", "_law_many", "_law_wide", "_law_scale", "_law_k", "_law_rows", "_law_i", "_law_row", "_law_far", "_law_less"]
theorem sc_law_bending : FnScope n_law_bending p_law_bending (defScope s_law_bending) := ⟨rfl, rfl, rfl, by decide +kernel, rfl, by decide +kernel, by decide +kernel⟩
abbrev s_law_stretches : Stmt := topS 9
abbrev p_law_stretches : List Str := ["_law_deck_here", "_law_many", "_law_wide"]
abbrev n_law_stretches : List Str := ["_law_deck_here", "_law_many", "_law_wide", "_law_lows", "_law_highs", "_law_i", "_law_low", "_law_high"]
theorem sc_law_stretches : FnScope n_law_stretches p_law_stretches (defScope s_law_stretches) := ⟨rfl, rfl, rfl, by decide +kernel, rfl, by decide +kernel, by decide +kernel⟩
abbrev s_law_bends : Stmt := topS 10
abbrev p_law_bends : List Str := ["_law_rows"]
abbrev n_law_bends : List Str := ["_law_rows", "_law_wide", "_law_i", "_law_j", "_law_k", "_law_l", "_law_crossed"]
theorem sc_law_bends : FnScope n_law_bends p_law_bends (defScope s_law_bends) := ⟨rfl, rfl, rfl, by decide +kernel, rfl, by decide +kernel, by decide +kernel⟩
abbrev s_law_table : Stmt := topS 11
abbrev p_law_table : List Str := ["_law_deck_here"]
abbrev n_law_table : List Str := ["_law_deck_here", "_law_sort", "_law_alike", "_law_many", "_law_wide", "_law_rows", "_law_i", "_law_some", "_law_first", "_law_last", "_law_kept", "_law_turn", "_law_fewer", "_law_row"]
theorem sc_law_table : FnScope n_law_table p_law_table (defScope s_law_table) := ⟨rfl, rfl, rfl, by decide +kernel, rfl, by decide +kernel, by decide +kernel⟩
abbrev s_law : Stmt := topS 12
abbrev p_law : List Str := ["_law_script"]
abbrev n_law : List Str := ["_law_script", "_law_deck_here", "_law_turn", "_law_rows", "_law_firsts", "_law_lasts", "_law_found", "_law_there", "_law_one", "_law_other", "_law_place"]
theorem sc_law : FnScope n_law p_law (defScope s_law) := ⟨rfl, rfl, rfl, by decide +kernel, rfl, by decide +kernel, by decide +kernel⟩
structure Txt (K : PySem.W.Frag) (mg : Str → Option Value) where
  least_places : D1 K mg "least_places" s_least_places p_least_places
  least_place : D1 K mg "least_place" s_least_place p_least_place
  law_deck : D1 K mg "_law_deck" s_law_deck p_law_deck
  law_draw : D1 K mg "_law_draw" s_law_draw p_law_draw
  law_size : D1 K mg "_law_size" s_law_size p_law_size
  law_number : D1 K mg "_law_number" s_law_number p_law_number
  law_bending : D1 K mg "_law_bending" s_law_bending p_law_bending
  law_stretches : D1 K mg "_law_stretches" s_law_stretches p_law_stretches
  law_bends : D1 K mg "_law_bends" s_law_bends p_law_bends
  law_table : D1 K mg "_law_table" s_law_table p_law_table
  law : D1 K mg "law" s_law p_law
  c_least_places : Addr
  P_least_places : Addr
  h_least_places : least_places.fd.code = .ref c_least_places
  b_tuple : mg "tuple" = none
  b_enumerate : mg "enumerate" = none
  b_len : mg "len" = none
  b_range : mg "range" = none
  b_list : mg "list" = none
  b_int : mg "int" = none
  b_zip : mg "zip" = none
  b_max : mg "max" = none
  b_sorted : mg "sorted" = none
end K16

namespace K16
open PySem PySem.Spec PyProof.Rows L2 GenW BT
section
variable {P : Program} {w : World} {K : PySem.W.Frag} {mg : Str → Option Value} {base : Heap}
def spDraw : Sp := fun vs H Q _ => ∃ (d c : Addr) (most : Int), vs = [.ref d, .int most] ∧ Dk d c H ∧ 0 < most ∧ most < 1073741824 ∧ ∀ r H', 0 ≤ r → r < most → Dk d c H' → Kp [d, c] H H' → Q (.int r) H'
theorem ok_draw (T : Txt K mg) {k : Nat} : FnOk P w K mg base CX0 (k + 1) T.law_draw.f T.law_draw.fd p_law_draw spDraw := by
  refine T.law_draw.F.ok sc_law_draw (fun vs H Q E h => ?_) (fun cdv A outer s H vs Q E hr h => ?_)
  · obtain ⟨d, c, most, rfl, _⟩ := h
    rfl
  · obtain ⟨d, c, most, rfl, hD, hm0, hm1, q⟩ := h
    have hu := hu_of hr
    have nd := sc_law_draw.nd
    refine ⟨_, (pss_cons (ps_dput hu (pv 0) pe_str (pe_op op_add (pe_dget hu (pv 0) pe_str (fun _ _ => rfl)) pe_int) rfl)
        (pss_cons (ps_set (i := 2) nd rfl (Or.inl rfl) (pe_dget hu (pv 0) pe_str (fun _ _ => rfl)))
        (Evl.pss_cut (ps_if (pt_cmpR (op_neD hr.units) (pe_dget hu (pv 0) pe_str (fun _ _ => rfl)) (pe_lst pa_nil) (nomark _)) (pss_cons (ps_set (i := 2) nd rfl (Or.inl rfl) (pe_bm0 PySem.F.plainAttrs_list PySem.F.slot_list_pop PySem.F.type_list_pop mt_pop (pe_dget hu (pv 0) pe_str (fun _ _ => rfl))))
        (pss_one (ps_if (pt_cmpR op_ge (pv 2) (pe_op op_pow pe_int pe_int) (nomark _)) (pss_cons (ps_expr (pe_bm PySem.F.plainAttrs_list PySem.F.slot_list_append PySem.F.type_list_append mt_append (pe_dget hu (pv 0) pe_str (fun _ _ => rfl)) (pa_cons (pe_op op_fdivN (pv 2) (pv 1)) pa_nil)))
        (pss_one (ps_ret (pe_op op_modN (pv 2) (pv 1))))) pss_nil))) pss_nil)
        (pss_cons (ps_set (i := 3) nd rfl (Or.inl rfl) (pe_op op_mod (pe_op op_mul (pe_op op_add (pe_op op_mod (pv 2) pe_int) (pe_op op_mul pe_int (pe_dget hu (pv 0) pe_str (fun _ _ => rfl)))) pe_int) pe_int))
        (pss_cons (ps_set (i := 3) nd rfl (Or.inl rfl) (pe_op op_mod (pe_op op_add (pe_op op_add (pe_op op_mul (pv 3) (pv 3)) (pe_op op_mul pe_int (pv 3))) (pe_dget hu (pv 0) pe_str (fun _ _ => rfl))) pe_int))
        (pss_one (ps_ret (pe_op op_modN (pe_op op_fdiv (pe_op op_mod (pe_op op_mul (pv 3) pe_int) pe_int) pe_int) (pv 1))))))))), ?_⟩
    have hne := hD.ne
    obtain ⟨cs, sd, a, h1, h2, h3⟩ := hD
    -- at
    refine ⟨.ref d, rfl, d, .int a, rfl, dgAt h1, a, 1, rfl, rfl, .ref d, rfl, d, _, rfl, dpAt h1, ?_⟩
    have k1 : Kp [d, c] H (upd H d (.dK (dkv c sd (a + 1)))) := (Kp.refl H).wr List.mem_cons_self
    have c1 : upd H d (.dK (dkv c sd (a + 1))) c = some (.lst (cs.map V.int)) := by
      rw [upd_ne hne.symm]
      exact h2
    generalize hH1 : upd H d (.dK (dkv c sd (a + 1))) = H1 at k1 c1
    have d1 : H1 d = some (.dK (dkv c sd (a + 1))) := by rw [← hH1, upd_same]
    -- cell = seed
    refine ⟨.ref d, rfl, d, .int sd, rfl, dgSeed d1, ?_⟩
    -- the if, with a word behind it
    refine ⟨fun σ' H' => ∃ (x : Int) (cs' : List Int), σ' = [some (.ref d), some (.int most), some (.int x), none] ∧ H' d = some (.dK (dkv c sd (a + 1))) ∧ H' c = some (.lst (cs'.map V.int)) ∧ cs'.length ≤ 63 ∧ Kp [d, c] H H', ?_, ?_⟩
    · refine ⟨.ref d, rfl, d, .ref c, rfl, dgCells d1, Nat.zero_le _, fun p np => ?_⟩
      have hpd : d ≠ p := ne_of_none d1 np
      have hpc : c ≠ p := ne_of_none c1 np
      have k2 : Kp [d, c] H (upd H1 p (.lst [])) := k1.trans (Kp.new np)
      have d2 : upd H1 p (.lst []) d = some (.dK (dkv c sd (a + 1))) := by rw [upd_ne hpd]; exact d1
      have c2 : upd H1 p (.lst []) c = some (.lst (cs.map V.int)) := by rw [upd_ne hpc]; exact c1
      generalize hH2 : upd H1 p (.lst []) = H2 at k2 d2 c2
      have p2 : H2 p = some (.lst []) := by rw [← hH2, upd_same]
      refine ⟨_, _, .lst (lOf c2) (dpAll_ints cs), .lst (lOf p2) .nil, shaped_ints cs, rfl, _, rfl, ?_⟩
      rw [eqv_nil]
      cases hcs : cs with
      | nil => exact iteF ⟨sd, [], rfl, d2, by rw [c2, hcs], by decide, k2⟩
      | cons c0 cr =>
        refine iteT ?_
        have hlast : ∃ y cs', cs = cs' ++ [y] := ⟨cs.getLast (by rw [hcs]; simp), cs.dropLast, (List.dropLast_concat_getLast _).symm⟩
        obtain ⟨y, cs', ecs⟩ := hlast
        have hl' : cs'.length + 1 = cs.length := by rw [ecs]; simp
        have em : (cs.map V.int) = cs'.map V.int ++ [.int y] := by rw [ecs]; simp
        refine ⟨.ref d, rfl, d, .ref c, rfl, dgCells d2, .inl ⟨rfl, _, lOf c2⟩, c, _, .int y, rfl, rfl, c2, ?_, ?_⟩
        · rw [em]
          simp
        have ed : (cs.map V.int).dropLast = cs'.map V.int := by rw [em, List.dropLast_concat]
        rw [ed]
        have k3 : Kp [d, c] H (upd H2 c (.lst (cs'.map V.int))) := k2.wr (List.mem_cons_of_mem _ (List.mem_singleton.mpr rfl))
        have d3 : upd H2 c (.lst (cs'.map V.int)) d = some (.dK (dkv c sd (a + 1))) := by rw [upd_ne hne]; exact d2
        generalize hH3 : upd H2 c (.lst (cs'.map V.int)) = H3 at k3 d3
        have c3 : H3 c = some (.lst (cs'.map V.int)) := by rw [← hH3, upd_same]
        refine ⟨.int y, rfl, 10, 18, rfl, rfl, ⟨by decide, by decide, by decide⟩, y, _, rfl, rfl, _, rfl, ite2 (fun e => ?_) fun e => ?_⟩
        · refine ⟨.ref d, rfl, d, .ref c, rfl, dgCells d3, .inl ⟨rfl, _, lOf c3⟩, .int y, rfl, .int most, rfl, y, most, rfl, rfl, ⟨by omega, by omega⟩, c, _, _, rfl, rfl, c3, by rw [List.length_map]; exact Nat.lt_of_le_of_lt (show cs'.length ≤ 63 by omega) (by decide), ?_⟩
          refine ⟨.int y, rfl, .int most, rfl, y, most, rfl, rfl, by omega, ?_⟩
          obtain ⟨m1, m2⟩ := fmod_lt (x := y) hm0
          refine q _ _ m1 m2 ⟨cs' ++ [y.fdiv most], sd, a + 1, ?_, ?_, ?_⟩ (k3.wr (List.mem_cons_of_mem _ (List.mem_singleton.mpr rfl)))
          · rw [upd_ne hne]; exact d3
          · rw [upd_same, List.map_append]; rfl
          · rw [List.length_append]; show cs'.length + 1 ≤ 63; omega
        · exact ⟨y, cs', rfl, d3, c3, by omega, k3⟩
    · intro σ' H' hM
      obtain ⟨x, cs', rfl, d4, c4, hl4, k4⟩ := hM
      refine ⟨.int x, rfl, x, _, rfl, rfl, (show (0 : Int) < 2147483629 by decide), .ref d, rfl, d, _, rfl, dgAt d4, _, _, rfl, rfl, cmulL (by decide) (by decide), _, _, rfl, rfl, _, _, rfl, rfl, cmulR (by decide) (by decide), _, _, rfl, rfl, (show (0 : Int) < 2147483647 by decide), ?_⟩
      dsimp only
      have b1 := modm (x := (x % 2147483629 + 104729 * (a + 1)) * 48271) (show (0 : Int) < 2147483647 by decide)
      generalize hf1 : (x % 2147483629 + 104729 * (a + 1)) * 48271 % 2147483647 = f1 at b1 ⊢
      refine ⟨.int f1, rfl, .int f1, rfl, f1, f1, rfl, rfl, cmulL (by omega) (by omega), .int f1, rfl, _, f1, rfl, rfl, cmulL (by decide) (by decide), _, _, rfl, rfl, .ref d, rfl, d, _, rfl, dgAt d4, _, _, rfl, rfl, _, _, rfl, rfl, (show (0 : Int) < 2147483587 by decide), ?_⟩
      dsimp only
      have b2 := modm (x := (f1 * f1 + 69621 * f1 + (a + 1))) (show (0 : Int) < 2147483587 by decide)
      generalize hf2 : (f1 * f1 + 69621 * f1 + (a + 1)) % 2147483587 = f2 at b2 ⊢
      refine ⟨.int f2, rfl, f2, _, rfl, rfl, cmulR (by decide) (by decide), _, _, rfl, rfl, (show (0 : Int) < 2147483563 by decide), _, _, rfl, rfl, ⟨by decide, by decide⟩, .int most, rfl, _, most, rfl, rfl, by omega, ?_⟩
      obtain ⟨m1, m2⟩ := fmod_lt (x := f2 * 39373 % 2147483563 / 64) hm0
      exact q _ _ m1 m2 ⟨cs', sd, a + 1, d4, c4, hl4⟩ k4
end
end K16

namespace K16
open PySem PySem.Spec PyProof.Rows L2 GenW BT
section
variable {P : Program} {w : World} {K : PySem.W.Frag} {mg : Str → Option Value} {base : Heap}
def sideS (last : Bool) : Str := if last = true then "last" else "first"
def spLP (K : PySem.W.Frag) : Sp := fun vs H Q _ => ∃ (a : Addr) (row : List (Option Int)) (last : Bool), vs = [.ref a, .str (sideS last)] ∧ SqT K H a (row.map ov) ∧ ∀ v H', LeU last row row.length v → Kp [] H H' → Q v H'
theorem side_is (last : Bool) : decide ((V.str (sideS last)) = V.str (Str.ofString "last")) = last := by
  cases last
  · decide +kernel
  · decide +kernel
theorem ov_at {row : List (Option Int)} {i : Nat} {y : V} (h : (row.map ov)[i]? = some y) : ∃ r, row[i]? = some r ∧ y = ov r := by
  rw [List.getElem?_map] at h
  cases q : row[i]? with
  | none => rw [q] at h; cases h
  | some r => rw [q] at h; exact ⟨r, rfl, (Option.some.inj h).symm⟩
theorem at_ov {row : List (Option Int)} {i : Nat} {r : Option Int} (h : row[i]? = some r) : (row.map ov)[i]? = some (ov r) := by
  rw [List.getElem?_map, h]
  rfl
theorem ok_least_place (T : Txt K mg) {k : Nat} : FnOk P w K mg base CX0 (k + 1) T.least_place.f T.least_place.fd p_least_place (spLP K) := by
  refine T.least_place.F.ok sc_least_place (fun vs H Q E h => ?_) (fun cdv A outer s H vs Q E hr h => ?_)
  · obtain ⟨a, row, last, rfl, _⟩ := h
    rfl
  · obtain ⟨a, row, last, rfl, hS, q⟩ := h
    have nd := sc_least_place.nd
    refine ⟨_, (pss_cons (ps_set (i := 2) nd rfl (Or.inl rfl) pe_non)
        (pss_cons (ps_for PassesOwn.never rfl (pi_enumT (by rfl) T.b_enumerate (pa_cons (pv 0) pa_nil)) (pg_tup (by rfl) (pgs_cons (pg_name (i := 3) nd rfl (Or.inl rfl)) (pgs_cons (pg_name (i := 4) nd rfl (Or.inl rfl)) pgs_nil))) (pss_cons (ps_if (pt_cmpR op_isN (pv 4) pe_non (nomark _)) (pss_one ps_continue) pss_nil)
        (pss_one (ps_if (PW.pt (pw_or (pt_cmpR op_isN (pv 2) pe_non (nomark _)) (pw_or (pt_cmpR op_lt (pv 4) (pe_ix (ixTK K) (pv 0) (pv 2) (fun _ _ => rfl)) (nomark _)) (pw_or1 (PW.pt (pw_and (pt_cmpR op_eq (pv 4) (pe_ix (ixTK K) (pv 0) (pv 2) (fun _ _ => rfl)) (nomark _)) (pw_and1 (pt_cmpR op_eq (pv 1) pe_str (nomark _))))))))) (pss_one (ps_set (i := 2) nd rfl (Or.inl rfl) (pv 3))) pss_nil))))
        (pss_one (ps_ret (pv 2))))), ?_⟩
    refine ⟨.ref a, rfl, a, row.map ov, rfl, hS, for_it (walk_enumT (xs := row.map ov)) (fun i σ H' => ∃ v y3 y4, σ = [some (.ref a), some (.str (sideS last)), some v, y3, y4] ∧ LeU last row i v ∧ Kp [] H H') ⟨.non, none, none, rfl, LeU.zero, Kp.refl H⟩ (fun i σ H' hi hp => ?_) (fun i x σ H1 H2 hi hp hy => ?_) fun σ H' hp => ?_⟩
    · obtain ⟨v, y3, y4, _, _, kk⟩ := hp
      exact kk.t (by simp) hS
    · obtain ⟨v, y3, y4, rfl, hv, kk⟩ := hp
      obtain ⟨T1, x1, y1, rfl, nT, rfl, hx1, hy1⟩ := hy
      cases hx1
      obtain ⟨r, hr1, rfl⟩ := ov_at hy1
      have k2 : Kp [] H (upd H1 T1 (.tup [.int (i : Nat), ov r])) := kk.trans (Kp.new nT)
      have hA : SqT K (upd H1 T1 (.tup [.int (i : Nat), ov r])) a (row.map ov) := k2.t (by simp) hS
      refine ⟨T1, [.int (i : Nat), ov r], rfl, tOf upd_same, rfl, .int (i : Nat), [ov r], rfl, ov r, [], rfl, rfl, ?_⟩
      generalize upd H1 T1 (.tup [.int (i : Nat), ov r]) = H3 at k2 hA
      cases r with
      | none =>
        refine ⟨.non, rfl, rfl, _, rfl, iteT ?_⟩
        exact ⟨v, _, _, rfl, hv.skip hr1, k2⟩
      | some n =>
        refine ⟨.int n, rfl, rfl, _, rfl, iteF ?_⟩
        by_cases hnon : v = .non
        · subst hnon
          refine ⟨.non, rfl, rfl, _, rfl, ?_⟩
          refine iteT (iteT ?_)
          exact ⟨.int (i : Nat), rfl, _, _, _, rfl, hv.first hr1, k2⟩
        · obtain ⟨kk1, x, rfl, hkm, hx⟩ := hv.at hnon
          have hat : atI (row.map ov) ((kk1 : Nat) : Int) = some (.int x) := atI_nat (at_ov hx)
          refine ⟨.int kk1, rfl, rfl, _, rfl, iteF ?_⟩
          refine ⟨.int n, rfl, .ref a, rfl, .int kk1, rfl, a, _, _, _, rfl, rfl, hA, hat, n, x, rfl, rfl, _, rfl, ?_⟩
          by_cases hlt : n < x
          · rw [decide_eq_true hlt]
            refine iteT (iteT ?_)
            exact ⟨.int (i : Nat), rfl, _, _, _, rfl, hv.take hx hr1 (.inl hlt), k2⟩
          · rw [decide_eq_false hlt]
            refine iteF ?_
            refine ⟨.int n, rfl, .ref a, rfl, .int kk1, rfl, a, _, _, _, rfl, rfl, hA, hat, rfl, _, rfl, ?_⟩
            by_cases heq : n = x
            · subst heq
              rw [decide_eq_true rfl]
              refine iteT ?_
              refine ⟨.str (sideS last), rfl, rfl, _, rfl, ?_⟩
              rw [side_is]
              cases last with
              | true =>
                refine iteT ?_
                exact ⟨.int (i : Nat), rfl, _, _, _, rfl, hv.take hx hr1 (.inr ⟨rfl, rfl⟩), k2⟩
              | false =>
                refine iteF ?_
                exact ⟨_, _, _, rfl, hv.stay hx hr1 (by simp), k2⟩
            · rw [decide_eq_false (fun z => heq (V.int.inj z))]
              refine iteF (iteF ?_)
              exact ⟨_, _, _, rfl, hv.stay hx hr1 (by omega), k2⟩
    · obtain ⟨v, y3, y4, rfl, hv, kk⟩ := hp
      rw [List.length_map] at hv
      exact ⟨v, rfl, q v H' hv kk⟩
def spSize : Sp := fun vs H Q _ => ∃ (d c : Addr), vs = [.ref d] ∧ Dk d c H ∧ ∀ r H', 1 ≤ r → r ≤ 12 → Dk d c H' → Kp [d, c] H H' → Q (.int r) H'
theorem ok_size (T : Txt K mg) {k : Nat} : FnOk P w K mg base CX0 (k + 2) T.law_size.f T.law_size.fd p_law_size spSize := by
  have G_law_draw : FnOk P w K mg base CX0 1 T.law_draw.f T.law_draw.fd p_law_draw spDraw := ok_draw T
  refine T.law_size.F.ok sc_law_size (fun vs H Q E h => ?_) (fun cdv A outer s H vs Q E hr h => ?_)
  · obtain ⟨d, c, rfl, _⟩ := h
    rfl
  · obtain ⟨d, c, rfl, hD, q⟩ := h
    replace hr := hr.mono (show 1 ≤ k + 1 by omega)
    refine ⟨_, (pss_one (ps_ret (pe_ix ix_list (pe_lst (pa_cons (pe_op op_add pe_int (pe_call G_law_draw (hr.mono (by decide)) (by rfl) T.law_draw.g T.law_draw.F.kp T.law_draw.b .nil pass0 (pa_cons (pv 0) (pa_cons pe_int pa_nil)))) (pa_cons pe_int pa_nil))) (pe_callTy call_int1 (by rfl) T.b_int (by decide +kernel) (pa_cons (pe_cmpR op_eq (pe_call G_law_draw (hr.mono (by decide)) (by rfl) T.law_draw.g T.law_draw.F.kp T.law_draw.b .nil pass0 (pa_cons (pv 0) (pa_cons pe_int pa_nil))) pe_int (nomark _)) pa_nil)) (fun _ _ => rfl)))), ?_⟩
    refine ⟨.ref d, rfl, d, c, 6, rfl, hD, by decide, by decide, fun r1 H1 l1 u1 D1 k1 => ?_⟩
    refine ⟨1, r1, rfl, rfl, (show (2 : Nat) ≤ sizeLine by decide), fun p np => ?_⟩
    have D2 : Dk d c (upd H1 p (.lst [.int (1 + r1), .int 12])) := D1.kp (M := []) (Kp.new np) (by simp) (by simp)
    have pd : p ≠ d := by obtain ⟨_, _, _, z, _⟩ := D1; exact (ne_of_none z np).symm
    have pc : p ≠ c := by obtain ⟨_, _, _, _, z, _⟩ := D1; exact (ne_of_none z np).symm
    refine ⟨.ref d, rfl, d, c, 8, rfl, D2, by decide, by decide, fun r2 H3 l2 u2 D3 k3 => ?_⟩
    have hp3 : H3 p = some (.lst [.int (1 + r1), .int 12]) := k3 p _ (by simp [pd, pc]) upd_same
    have kk : Kp [d, c] H H3 := (k1.trans (Kp.new np)).trans k3
    refine ⟨rfl, .inr ⟨_, rfl, ?_⟩⟩
    by_cases e : r2 = 5
    · subst e
      rw [decide_eq_true rfl]
      exact ⟨p, _, _, .int 12, rfl, rfl, lOf hp3, atI_nat (j := 1) rfl, q 12 H3 (by decide) (by decide) D3 kk⟩
    · rw [decide_eq_false (fun z => e (V.int.inj z))]
      exact ⟨p, _, _, .int (1 + r1), rfl, rfl, lOf hp3, atI_nat (j := 0) rfl, q (1 + r1) H3 (by omega) (by omega) D3 kk⟩
end
end K16

namespace K16
open PySem PySem.Spec PyProof.Rows L2 GenW BT
section
variable {P : Program} {w : World} {K : PySem.W.Frag} {mg : Str → Option Value} {base : Heap}
def spLPs (Pt : Addr) : Sp := fun vs H Q _ => ∃ (a : Addr) (rows : List (List (Option Int))) (last : Bool), vs = [.ref a, .str (sideS last)] ∧ TabAt H a rows ∧ rows.length ≤ 1000 ∧ TabG H Pt ∧
  ∀ p us H', H' p = some (.tup us) → us.length = rows.length → (∀ (i : Nat) row v, rows[i]? = some row → us[i]? = some v → LeU last row row.length v) → Kp [Pt] H H' → TabG H' Pt → Q (.ref p) H'
theorem ok_least_places (T : Txt K mg) (TB : TabB base mg T.c_least_places T.P_least_places) {k : Nat} : FnOk P w K mg base CX0 (k + 8) T.least_places.f T.least_places.fd p_least_places (spLPs T.P_least_places) := by
  have G_least_place : FnOk P w K mg base CX0 1 T.least_place.f T.least_place.fd p_least_place (spLP K) := ok_least_place T
  refine BT.Fun.okC T.least_places.F T.h_least_places sc_least_places (fun vs H Q E h => ?_) (fun A outer s H vs Q E hr h => ?_)
  · obtain ⟨a, rows, last, rfl, _⟩ := h
    rfl
  · obtain ⟨a, rows, last, rfl, hT, hl, hG, q⟩ := h
    replace hr := hr.mono (show 7 ≤ k + 7 by omega)
    refine ⟨_, pss_one (ps_ret (pe_tupG (k := 1) (js := [none, some 1]) (N := ["row", "side"]) hr TB rfl (gxOk_by (XN := n_least_places) (xs := defScope s_least_places) (by decide +kernel)) (pi_tup (pv 0)) (fun _ => rfl)
      (fun _ _ _ _ _ _ _ _ _ _ => pg_name (i := 0) (show (["row", "side"] : List Str).Nodup by decide +kernel) rfl (Or.inl rfl)) (fun _ _ _ _ _ _ _ _ _ hrg => pe_call G_least_place hrg (by rfl) T.least_place.g T.least_place.F.kp T.least_place.b .nil pass0 (pa_cons (pv 0) (pa_cons (pv 1) pa_nil))) (by rfl) T.b_tuple)), ?_⟩
    obtain ⟨ps, t1, t2, t3⟩ := hT
    refine ⟨.ref a, rfl, a, rfl, ⟨_, tOf t1⟩, hG, fun H2 tb => ?_⟩
    have k2 : Kp [T.P_least_places] H H2 := Tabbed.kp tb
    refine tup_it (walk_tup (xs := ps.map V.ref)) (fun us H' => Kp [T.P_least_places] H H' ∧ TabG H' T.P_least_places ∧ ∀ (i : Nat) row v, rows[i]? = some row → us[i]? = some v → LeU last row row.length v) ⟨k2, tb.1, fun i row v _ e => by simp at e⟩ (fun us H' hlu hp => ?_) (fun us x H' H3 hlt hp hy => ?_) fun us H' p hlu hp np => ?_
    · exact hp.1.t ((NT.tab hG).ni t1) (tOf t1)
    · obtain ⟨kk, tg, hu⟩ := hp
      obtain ⟨rfl, hx⟩ := hy
      rw [List.getElem?_map] at hx
      rw [List.length_map] at hlt
      have hb : ps[us.length]? = some ps[us.length] := List.getElem?_eq_getElem hlt
      rw [hb] at hx
      have ex : x = .ref ps[us.length] := (Option.some.inj hx).symm
      subst ex
      have hrl : us.length < rows.length := by omega
      have hrow := List.getElem?_eq_getElem hrl
      have hS := t3 us.length _ _ hb hrow
      refine ⟨Le.set rfl, .ref ps[us.length], rfl, .str (sideS last), rfl, ps[us.length], rows[us.length], last, rfl, tOf (kk _ _ ((NT.tab hG).ni hS) hS), fun v H4 hv k4 => ?_⟩
      refine ⟨Nat.lt_of_le_of_lt (show us.length ≤ 1000 by omega) (by decide), by rw [List.length_append, List.length_map]; exact hlt, kk.trans (k4.mono (by simp)), TabG.kp tg k4 (by simp), fun i row w e1 e2 => ?_⟩
      by_cases hi : i < us.length
      · rw [List.getElem?_append_left hi] at e2
        exact hu i row w e1 e2
      · have hil : i < (us ++ [v]).length := (List.getElem?_eq_some_iff.mp e2).1
        rw [List.length_append] at hil
        have ei : i = us.length := by simp at hil; omega
        subst ei
        rw [List.getElem?_append_right (Nat.le_refl _), Nat.sub_self] at e2
        cases e2
        rw [hrow] at e1
        cases e1
        exact hv
    · obtain ⟨kk, tg, hu⟩ := hp
      rw [List.length_map] at hlu
      exact q p us _ upd_same (by omega) hu (kk.trans (Kp.new np)) (TabG.kp tg (Kp.new (M := []) np) (by simp))
end
end K16

namespace K16
open PySem PySem.Spec PyProof.Rows L2 GenW BT
section
variable {P : Program} {w : World} {K : PySem.W.Frag} {mg : Str → Option Value} {base : Heap}
def spDeck (K : PySem.W.Frag) : Sp := fun vs H Q _ => ∃ (a : Addr) (ns : List Int), vs = [.ref a] ∧ SqL K H a (ns.map V.int) ∧ ns.length ≤ 63 ∧ ∀ d c H', Dk d c H' → Kp [] H H' → H d = none → H c = none → Q (.ref d) H'
theorem ok_law_deck (T : Txt K mg) {k : Nat} : FnOk P w K mg base CX0 (k + 1) T.law_deck.f T.law_deck.fd p_law_deck (spDeck K) := by
  refine T.law_deck.F.ok sc_law_deck (fun vs H Q E h => ?_) (fun cdv A outer s H vs Q E hr h => ?_)
  · obtain ⟨a, ns, rfl, _⟩ := h
    rfl
  · obtain ⟨a, ns, rfl, hS, hl, q⟩ := h
    have nd := sc_law_deck.nd
    refine ⟨_, (pss_cons (ps_set (i := 1) nd rfl (Or.inl rfl) (pe_callTy (lisK K) (by rfl) T.b_list (by decide +kernel) (pa_cons (pe_slice (slLK K) (pv 0) po_none (po_some pe_int)) pa_nil)))
        (pss_cons (ps_set (i := 2) nd rfl (Or.inl rfl) pe_int)
        (pss_cons (ps_for PassesOwn.never rfl (piLK K (pv 1)) (pg_name (i := 3) nd rfl (Or.inl rfl)) (pss_one (ps_set (i := 2) nd rfl (Or.inl rfl) (pe_op op_mod (pe_op op_add (pe_op op_add (pe_op op_mul (pv 2) pe_int) (pe_op op_mod (pv 3) pe_int)) pe_int) pe_int))))
        (pss_one (ps_ret (pe_disp (pps_cons pe_str (pe_revL (pv 1)) (pps_cons pe_str (pv 2) (pps_cons pe_str pe_int pps_nil))) (by rfl) (by rfl) (fun z => by cases z) (by decide))))))), ?_⟩
    refine ⟨.ref a, rfl, 63, rfl, a, _, rfl, hS, fun p np => ⟨p, _, rfl, .inl (lOf upd_same), fun l nl0 => ?_⟩⟩
    have hcut : cutV (ns.map V.int) none (some 63) = ns.map V.int := (cut_to _ 63).trans (List.take_of_length_le (by rw [List.length_map]; exact hl))
    have nl : upd H p (.lst (ns.map V.int)) l = none := by rw [← hcut]; exact nl0
    rw [hcut]
    have k1 : Kp [] H (upd (upd H p (.lst (ns.map V.int))) l (.lst (ns.map V.int))) := (Kp.new np).trans (Kp.new nl)
    have l1 : upd (upd H p (.lst (ns.map V.int))) l (.lst (ns.map V.int)) l = some (.lst (ns.map V.int)) := upd_same
    generalize upd (upd H p (.lst (ns.map V.int))) l (.lst (ns.map V.int)) = H1 at k1 l1
    refine ⟨.ref l, rfl, l, rfl, ⟨_, lOf l1⟩, ?_⟩
    refine for_it (walk_list (xs := ns.map V.int)) (fun i σ H' => ∃ (sd : Int) (y3 : Option V), σ = [some (.ref a), some (.ref l), some (.int sd), y3] ∧ H' = H1) ⟨11, none, rfl, rfl⟩ (fun i σ H' hi hp => by obtain ⟨_, _, _, rfl⟩ := hp; exact lOf l1) (fun i x σ H' H'' hi hp hy => ?_) fun σ H' hp => ?_
    · obtain ⟨sd, y3, rfl, rfl⟩ := hp
      obtain ⟨rfl, hx⟩ := hy
      rw [List.getElem?_map] at hx
      obtain ⟨n, rfl⟩ : ∃ n, x = .int n := by
        cases e : ns[i]? with
        | none => rw [e] at hx; cases hx
        | some n => rw [e] at hx; exact ⟨n, (Option.some.inj hx).symm⟩
      refine ⟨.int sd, rfl, _, _, rfl, rfl, cmulR (by decide) (by decide), .int n, rfl, _, _, rfl, rfl, (show (0 : Int) < 2147483587 by decide), _, _, rfl, rfl, _, _, rfl, rfl, _, _, rfl, rfl, (show (0 : Int) < 2147483629 by decide), ?_⟩
      exact ⟨_, _, rfl, rfl⟩
    · obtain ⟨sd, y3, rfl, rfl⟩ := hp
      intro d nd1
      have k2 : Kp [] H (upd H' d (.dK [])) := k1.trans (Kp.new nd1)
      refine ⟨.ref l, rfl, l, _, rfl, lOf ((Kp.new (M := []) nd1) l _ (by simp) l1), fun c nc => ?_⟩
      have hdc : d ≠ c := ne_of_none (upd_same (H := H') (a := d)) nc
      refine ⟨.int sd, rfl, ?_⟩
      refine ⟨by rw [upd_ne hdc, upd_same], [(.inr "cells", .ref c), (.inr "seed", .int sd), (.inr "at", .int 0)], rfl, by show 3 ≤ 15; decide, ?_⟩
      have em : mergeK [] [((.inr "cells" : Key), V.ref c), (.inr "seed", .int sd), (.inr "at", .int 0)] = dkv c sd 0 := by
        have e1 : ¬ Str.ofString "cells" = Str.ofString "seed" := by decide +kernel
        have e2 : ¬ Str.ofString "cells" = Str.ofString "at" := by decide +kernel
        have e3 : ¬ Str.ofString "seed" = Str.ofString "at" := by decide +kernel
        simp [mergeK, putK, e1, e2, e3, dkv]
      rw [em]
      refine q d c _ ⟨ns.reverse, sd, 0, upd_same, ?_, by rw [List.length_reverse]; exact hl⟩ ?_ (k1.back nd1) (k2.back nc)
      · rw [upd_ne hdc.symm, upd_same, List.map_reverse]
      · exact (k2.trans (Kp.new nc)).mut (k1.back nd1)
end
end K16

namespace K16
open PySem PySem.Spec PyProof.Rows L2 GenW BT
section
variable {P : Program} {w : World} {K : PySem.W.Frag} {mg : Str → Option Value} {base : Heap}
def spNum : Sp := fun vs H Q _ => ∃ (d c : Addr) (sc : Int), vs = [.ref d, .int sc] ∧ Dk d c H ∧ ∀ n H', Dk d c H' → Kp [d, c] H H' → Q (.int n) H'
theorem ok_number (T : Txt K mg) {k : Nat} : FnOk P w K mg base CX0 (k + 2) T.law_number.f T.law_number.fd p_law_number spNum := by
  have G_law_draw : FnOk P w K mg base CX0 1 T.law_draw.f T.law_draw.fd p_law_draw spDraw := ok_draw T
  refine T.law_number.F.ok sc_law_number (fun vs H Q E h => ?_) (fun cdv A outer s H vs Q E hr h => ?_)
  · obtain ⟨d, c, sc, rfl, _⟩ := h
    rfl
  · obtain ⟨d, c, sc, rfl, hD, q⟩ := h
    replace hr := hr.mono (show 1 ≤ k + 1 by omega)
    refine ⟨_, (pss_cons (ps_if (pt_cmpR op_eq (pv 1) pe_int (nomark _)) (pss_one (ps_ret (pe_call G_law_draw (hr.mono (by decide)) (by rfl) T.law_draw.g T.law_draw.F.kp T.law_draw.b .nil pass0 (pa_cons (pv 0) (pa_cons pe_int pa_nil))))) pss_nil)
        (pss_cons (ps_if (pt_cmpR op_eq (pv 1) pe_int (nomark _)) (pss_one (ps_ret (pe_op op_sub (pe_call G_law_draw (hr.mono (by decide)) (by rfl) T.law_draw.g T.law_draw.F.kp T.law_draw.b .nil pass0 (pa_cons (pv 0) (pa_cons pe_int pa_nil))) pe_int))) pss_nil)
        (pss_one (ps_ret (pe_op op_add (pe_op op_mul (pe_op op_sub (pe_call G_law_draw (hr.mono (by decide)) (by rfl) T.law_draw.g T.law_draw.F.kp T.law_draw.b .nil pass0 (pa_cons (pv 0) (pa_cons pe_int pa_nil))) pe_int) (pe_op op_pow pe_int pe_int)) (pe_call G_law_draw (hr.mono (by decide)) (by rfl) T.law_draw.g T.law_draw.F.kp T.law_draw.b .nil pass0 (pa_cons (pv 0) (pa_cons (pe_op op_pow pe_int pe_int) pa_nil)))))))), ?_⟩
    refine ⟨.int sc, rfl, rfl, _, rfl, ite2 (fun _ => ?_) fun _ => ?_⟩
    · exact ⟨.ref d, rfl, d, c, 10, rfl, hD, by decide, by decide, fun r H' _ _ D' k' => q r H' D' k'⟩
    · refine ⟨.int sc, rfl, rfl, _, rfl, ite2 (fun _ => ?_) fun _ => ?_⟩
      · exact ⟨.ref d, rfl, d, c, 7, rfl, hD, by decide, by decide, fun r H' _ _ D' k' => ⟨r, 3, rfl, rfl, q _ H' D' k'⟩⟩
      · refine ⟨.ref d, rfl, d, c, 200, rfl, hD, by decide, by decide, fun r H1 _ _ D1 k1 => ?_⟩
        refine ⟨r, 100, rfl, rfl, 10, 6, rfl, rfl, ⟨by decide, by decide, by decide⟩, _, _, rfl, rfl, cmulR (by decide) (by decide), ?_⟩
        refine ⟨.ref d, rfl, 10, 6, rfl, rfl, ⟨by decide, by decide, by decide⟩, d, c, _, rfl, D1, by decide, by decide, fun r2 H2 _ _ D2 k2 => ?_⟩
        exact ⟨_, r2, rfl, rfl, q _ H2 D2 (k1.trans k2)⟩
def spBending : Sp := fun vs H Q _ => ∃ (d c : Addr) (many wide : Nat), vs = [.ref d, .int many, .int wide] ∧ Dk d c H ∧ 1 ≤ many ∧ many ≤ 12 ∧ 1 ≤ wide ∧ wide ≤ 12 ∧
  ∀ R rows H', H R = none → LAt [d, c] H' R rows → rows.length = many → Fullw rows wide → Nbs rows → Dk d c H' → Kp [d, c] H H' → Q (.ref R) H'
theorem ok_bending (T : Txt K mg) {k : Nat} : FnOk P w K mg base CX0 (k + 3) T.law_bending.f T.law_bending.fd p_law_bending spBending := by
  have G_law_draw : FnOk P w K mg base CX0 1 T.law_draw.f T.law_draw.fd p_law_draw spDraw := ok_draw T
  have G_law_number : FnOk P w K mg base CX0 2 T.law_number.f T.law_number.fd p_law_number spNum := ok_number T
  refine T.law_bending.F.ok sc_law_bending (fun vs H Q E h => ?_) (fun cdv A outer s H vs Q E hr h => ?_)
  · obtain ⟨d, c, many, wide, rfl, _⟩ := h
    rfl
  · obtain ⟨d, c, many, wide, rfl, hD, m0, m1, w0, w1, q⟩ := h
    replace hr := hr.mono (show 2 ≤ k + 2 by omega)
    have nd := sc_law_bending.nd
    refine ⟨_, (pss_cons (ps_set (i := 3) nd rfl (Or.inr rfl) (pe_call G_law_draw (hr.mono (by decide)) (by rfl) T.law_draw.g T.law_draw.F.kp T.law_draw.b .nil pass0 (pa_cons (pv 0) (pa_cons pe_int pa_nil))))
        (pss_cons (ps_set (i := 5) nd rfl (Or.inl rfl) (pe_lst (pa_cons (pe_lc (own := [("_law_k", 4)]) rfl nd (pi_range1 (by rfl) T.b_range (pa_cons (pv 2) pa_nil)) (blkOk_by (own := [("_law_k", 4)]) (N := n_law_bending) (sc := defScope s_law_bending) (by decide +kernel)) (fun _ _ _ _ _ => (pg_name (i := 4) nd rfl (Or.inl rfl))) (fun _ _ _ _ _ => pts_nil) (fun _ _ _ _ _ => (pe_call G_law_number (hr.mono (by decide)) (by rfl) T.law_number.g T.law_number.F.kp T.law_number.b .nil pass0 (pa_cons (pv 0) (pa_cons (pv 3) pa_nil))))) pa_nil)))
        (pss_cons (ps_for PassesOwn.never rfl (pi_range1 (by rfl) T.b_range (pa_cons (pe_op op_sub (pv 1) pe_int) pa_nil)) (pg_name (i := 6) nd rfl (Or.inl rfl)) (pss_cons (ps_set (i := 7) nd rfl (Or.inl rfl) (pe_lst (pa_cons (pe_call G_law_number (hr.mono (by decide)) (by rfl) T.law_number.g T.law_number.F.kp T.law_number.b .nil pass0 (pa_cons (pv 0) (pa_cons (pv 3) pa_nil))) pa_nil)))
        (pss_cons (ps_for PassesOwn.never rfl (pi_range2 (by rfl) T.b_range (pa_cons pe_int (pa_cons (pv 2) pa_nil))) (pg_name (i := 4) nd rfl (Or.inl rfl)) (pss_cons (ps_set (i := 8) nd rfl (Or.inl rfl) (pe_call G_law_draw (hr.mono (by decide)) (by rfl) T.law_draw.g T.law_draw.F.kp T.law_draw.b .nil pass0 (pa_cons (pv 0) (pa_cons (pe_ix (ixLK K) (pe_lst (pa_cons pe_int (pa_cons (pe_op op_mul pe_int (pe_op op_pow pe_int pe_int)) pa_nil))) (pe_callTy call_int1 (by rfl) T.b_int (by decide +kernel) (pa_cons (pe_cmpR op_eq (pv 3) pe_int (nomark _)) pa_nil)) (fun _ _ => rfl)) pa_nil))))
        (pss_cons (ps_set (i := 9) nd rfl (Or.inl rfl) (pe_ix (ixLK K) (pe_lst (pa_cons pe_int (pa_cons pe_int (pa_cons (pe_call G_law_draw (hr.mono (by decide)) (by rfl) T.law_draw.g T.law_draw.F.kp T.law_draw.b .nil pass0 (pa_cons (pv 0) (pa_cons pe_int pa_nil))) (pa_cons (pv 8) pa_nil))))) (pe_call G_law_draw (hr.mono (by decide)) (by rfl) T.law_draw.g T.law_draw.F.kp T.law_draw.b .nil pass0 (pa_cons (pv 0) (pa_cons pe_int pa_nil))) (fun _ _ => rfl)))
        (pss_one (ps_expr (pe_bm PySem.F.plainAttrs_list PySem.F.slot_list_append PySem.F.type_list_append mt_append (pv 7) (pa_cons (pe_op op_sub (pe_op op_sub (pe_op op_add (pe_ix (ixLK K) (pv 7) (pe_un un_neg pe_int) (fun _ _ => rfl)) (pe_ix (ixLK K) (pe_ix (ixLK K) (pv 5) (pe_un un_neg pe_int) (fun _ _ => rfl)) (pv 4) (fun _ _ => rfl))) (pe_ix (ixLK K) (pe_ix (ixLK K) (pv 5) (pe_un un_neg pe_int) (fun _ _ => rfl)) (pe_op op_sub (pv 4) pe_int) (fun _ _ => rfl))) (pv 9)) pa_nil)))))))
        (pss_one (ps_expr (pe_bm PySem.F.plainAttrs_list PySem.F.slot_list_append PySem.F.type_list_append mt_append (pv 5) (pa_cons (pv 7) pa_nil)))))))
        (pss_one (ps_ret (pv 5)))))), ?_⟩
    refine ⟨.ref d, rfl, d, c, 3, rfl, hD, by decide, by decide, fun sc H1 _ _ D1 k1 => ?_⟩
    -- the first row
    refine ⟨.int wide, rfl, wide, rfl, by omega, by omega, fun F nF => ?_⟩
    have niF := D1.ni nF
    rw [show ((wide : Nat) : Int).toNat = wide from Int.toNat_natCast _]
    refine lc_it walk_range (fun i H' => Dk d c H' ∧ Kp [d, c] H1 H' ∧ ∃ row : List (Option Int), H' F = some (.lst (row.map ov)) ∧ row.length = i ∧ ∀ k, k < i → ∃ x, row[k]? = some (some x)) ⟨D1.new nF, Kp.new nF, [], upd_same, rfl, fun k hk => absurd hk (Nat.not_lt_zero _)⟩ (fun _ _ _ _ => trivial) (fun i x Ha Hb hi hp hy => ?_) fun H2 hp => ?_
    · obtain ⟨DA, kA, row, hx, lx, fx⟩ := hp
      obtain ⟨rfl, rfl⟩ := hy
      refine ⟨rfl, .ref d, rfl, .int sc, rfl, d, c, sc, rfl, DA, fun n Hc DC kC => ?_⟩
      refine ⟨_, kC F _ niF hx, by rw [List.length_map]; exact Nat.lt_of_le_of_lt (show row.length ≤ 12 by omega) (by decide), DC.up niF, (kA.trans kC).mut nF, row ++ [some n], ?_, ?_, fun k hk => ?_⟩
      · rw [upd_same, List.map_append]; rfl
      · rw [List.length_append, lx]; rfl
      · by_cases e : k < i
        · obtain ⟨y, hy⟩ := fx k e
          exact ⟨y, by rw [List.getElem?_append_left (by omega)]; exact hy⟩
        · refine ⟨n, ?_⟩
          rw [List.getElem?_append_right (by omega), show k - row.length = 0 by omega]
          rfl
    obtain ⟨D2, k2, row0, hF, l0, f0⟩ := hp
    refine ⟨(show (1 : Nat) ≤ sizeLine by decide), fun R nR => ?_⟩
    have niR := D2.ni nR
    have neFR : F ≠ R := ne_of_none hF nR
    have kk2 : Kp [d, c] H H2 := k1.trans k2
    refine ⟨.int many, rfl, many, 1, rfl, rfl, _, rfl, by omega, by omega, ?_⟩
    rw [show ((many : Nat) - 1 : Int).toNat = many - 1 by omega]
    refine for_it walk_range (fun i σ H' => ∃ (y4 y6 y7 y8 y9 : Option V) (ps : List Addr) (rows : Rows), σ = [some (.ref d), some (.int many), some (.int wide), some (.int sc), y4, some (.ref R), y6, y7, y8, y9] ∧
      Dk d c H' ∧ Kp [d, c] H2 H' ∧ H' R = some (.lst (ps.map V.ref)) ∧ ps.length = rows.length ∧ rows.length = i + 1 ∧ (∀ b ∈ ps, b ∉ [d, c]) ∧ (∀ (i : Nat) b row, ps[i]? = some b → rows[i]? = some row → H' b = some (.lst (row.map ov))) ∧ Fullw rows wide ∧ Nbs rows)
      ⟨none, none, none, none, none, [F], [row0], rfl, D2.new nR, Kp.new nR, upd_same, rfl, rfl, ?_, ?_, ?_, ?_⟩ (fun _ _ _ _ _ => trivial) (fun i x σ Ha Hb hi hp hy => ?_) fun σ Ha hp => ?_
    · intro b hb
      rw [List.mem_singleton.mp hb]
      exact niF
    · intro m b row e1 e2
      have hm : m < [F].length := (List.getElem?_eq_some_iff.mp e1).1
      have em : m = 0 := by simp at hm; omega
      subst em
      cases e1
      cases e2
      exact (Kp.new (M := []) nR) F _ (by simp) hF
    · intro r hrm
      rw [List.mem_singleton.mp hrm]
      exact ⟨l0, f0⟩
    · intro m r r' e1 e2
      have hm : m + 1 < [row0].length := (List.getElem?_eq_some_iff.mp e2).1
      simp at hm
    · obtain ⟨y4, y6, y7, y8, y9, ps, rows, rfl, DA, kA, RA, lp, lr, hpb, hps, fw, nb⟩ := hp
      obtain ⟨rfl, rfl⟩ := hy
      -- row = [number]
      refine ⟨.ref d, rfl, .int sc, rfl, d, c, sc, rfl, DA, fun n1 Hc DC kC => ?_⟩
      refine ⟨(show (1 : Nat) ≤ sizeLine by decide), fun Wd nW => ?_⟩
      have niW := DC.ni nW
      have RC := kC R _ niR RA
      have neRW : R ≠ Wd := ne_of_none RC nW
      -- the row ahead
      have hlast : rows[i]? = some rows[i] := List.getElem?_eq_getElem (by omega)
      have hlp : ps[i]? = some ps[i] := List.getElem?_eq_getElem (by omega)
      obtain ⟨ll, lf⟩ := full_at fw hlast
      have hbl : ps[i] ∉ [d, c] := hpb _ (List.getElem_mem _)
      have hlC := kC _ _ hbl (hps i _ _ hlp hlast)
      generalize hlr : rows[i] = lrw at hlast ll lf hlC
      generalize hlb : ps[i] = lb at hlp hbl hlC
      refine ⟨.int wide, rfl, 1, wide, rfl, ⟨by omega, by omega, by omega, by omega⟩, ?_⟩
      rw [show ((wide : Nat) - 1 : Int).toNat = wide - 1 by omega]
      refine for_it walk_range (fun j σ H' => ∃ (y4 y8 y9 : Option V) (row : List (Option Int)), σ = [some (.ref d), some (.int many), some (.int wide), some (.int sc), y4, some (.ref R), some (.int (0 + (i : Nat))), some (.ref Wd), y8, y9] ∧
        Dk d c H' ∧ Kp [d, c] Hc H' ∧ H' Wd = some (.lst (row.map ov)) ∧ row.length = j + 1 ∧ (∀ k, k < j + 1 → ∃ x, row[k]? = some (some x)) ∧ Nb lrw row)
        ⟨y4, y8, y9, [some n1], rfl, DC.new nW, Kp.new nW, upd_same, rfl, ?_, ?_⟩ (fun _ _ _ _ _ => trivial) (fun j x σ He Hf hj hp hy => ?_) fun σ He hp => ?_
      · intro k hk
        have : k = 0 := by omega
        subst this
        exact ⟨n1, rfl⟩
      · intro k a b a' b' _ _ _ e
        have hk : k + 1 < [some n1].length := (List.getElem?_eq_some_iff.mp e).1
        simp at hk
      · obtain ⟨z4, z8, z9, row, rfl, DE, kE, WE, lrow, frow, nrow⟩ := hp
        obtain ⟨rfl, rfl⟩ := hy
        -- far
        refine ⟨.ref d, rfl, 10, 6, rfl, rfl, ⟨by decide, by decide, by decide⟩, 2, _, rfl, rfl, cmulL (by decide) (by decide), (show (2 : Nat) ≤ sizeLine by decide), fun p1 np1 => ?_⟩
        have D1' := DE.new (o := .lst [.int 9, .int (2 * 10 ^ (6 : Int).toNat)]) np1
        have kE1 : Kp [d, c] Hc (upd Hf p1 (.lst [.int 9, .int (2 * 10 ^ (6 : Int).toNat)])) := kE.trans (Kp.new np1)
        have W1 := (Kp.new (M := []) (o := .lst [.int 9, .int (2 * 10 ^ (6 : Int).toNat)]) np1) Wd _ (by simp) WE
        have e1 : upd Hf p1 (.lst [.int 9, .int (2 * 10 ^ (6 : Int).toNat)]) p1 = some (.lst [.int 9, .int (2 * 10 ^ (6 : Int).toNat)]) := upd_same
        dsimp only
        generalize upd Hf p1 (.lst [.int 9, .int (2 * 10 ^ (6 : Int).toNat)]) = HF at D1' kE1 W1 e1 ⊢
        obtain ⟨most, hmost, hm0, hm1⟩ : ∃ most : Int, atI [V.int 9, V.int (2 * 10 ^ (6 : Int).toNat)] (if decide (V.int sc = V.int 2) = true then 1 else 0) = some (.int most) ∧ 0 < most ∧ most < 1073741824 := by
          cases decide (V.int sc = V.int 2)
          · exact ⟨9, atI_nat (j := 0) rfl, by decide, by decide⟩
          · exact ⟨2 * 10 ^ (6 : Int).toNat, atI_nat (j := 1) rfl, by decide, by decide⟩
        refine ⟨.int sc, rfl, rfl, .inr ⟨_, rfl, p1, _, _, .int most, rfl, rfl, lOf e1, hmost, d, c, most, rfl, D1', hm0, hm1, fun far HG f0' f1' DG kG => ?_⟩⟩
        -- less
        refine ⟨.ref d, rfl, d, c, 4, rfl, DG, by decide, by decide, fun r4 HH h0 h1 DH kH => ?_⟩
        refine ⟨.int far, rfl, (show (4 : Nat) ≤ sizeLine by decide), fun p2 np2 => ?_⟩
        have ni2 := DH.ni np2
        refine ⟨.ref d, rfl, d, c, 4, rfl, DH.new np2, by decide, by decide, fun r5 HI i0 i1 DI kI => ?_⟩
        obtain ⟨less, hl0, hless⟩ := at4n (a := 0) (b := 0) (c := r4) (e := far) i0 i1 (by decide) (by decide) h0 f0'
        refine ⟨p2, _, _, .int less, rfl, rfl, lOf (kI p2 _ ni2 upd_same), hless, ?_⟩
        have kI2 : Kp [d, c] HF HI := ((kG.trans kH).trans (Kp.new np2)).trans kI
        have WI := kI2 Wd _ niW W1
        have kcI : Kp [d, c] Hc HI := kE1.trans kI2
        have RI := kcI R _ niR RC
        have LI := kcI lb _ hbl hlC
        -- append
        obtain ⟨v, hv⟩ := frow j (by omega)
        obtain ⟨bb, hbb⟩ := lf (j + 1) (by omega)
        obtain ⟨aa, haa⟩ := lf j (by omega)
        have hRl : atI (ps.map V.ref) (-1) = some (.ref lb) := at_m1 (n := i) (by rw [List.length_map]; omega) (by rw [List.getElem?_map, hlp]; rfl)
        refine ⟨.ref Wd, rfl, .inl ⟨rfl, _, lOf WI⟩, .ref Wd, rfl, 1, rfl, Wd, _, _, .int v, rfl, rfl, lOf WI, at_m1 (n := j) (by rw [List.length_map]; omega) (at_ov hv), .ref R, rfl, 1, rfl, R, _, _, .ref lb, rfl, rfl, lOf RI, hRl,
          .int (1 + (j : Nat)), rfl, lb, _, _, .int bb, rfl, rfl, lOf LI, at_i (n := j + 1) (by omega) (at_ov hbb), v, bb, rfl, rfl, .ref R, rfl, 1, rfl, R, _, _, .ref lb, rfl, rfl, lOf RI, hRl, .int (1 + (j : Nat)), rfl, _, 1, rfl, rfl, lb, _, _, .int aa, rfl, rfl, lOf LI, at_i (n := j) (by omega) (at_ov haa),
          _, aa, rfl, rfl, .int less, rfl, _, less, rfl, rfl, Wd, _, _, rfl, rfl, WI, by rw [List.length_map]; exact Nat.lt_of_le_of_lt (show row.length ≤ 12 by omega) (by decide), ?_⟩
        refine ⟨_, _, _, row ++ [some (v + bb - aa - less)], rfl, DI.up niW, kcI.mut nW, ?_, ?_, ?_, ?_⟩
        · rw [upd_same, List.map_append]; rfl
        · rw [List.length_append, lrow]; rfl
        · intro k hk
          by_cases e : k < j + 1
          · obtain ⟨y, hy⟩ := frow k e
            exact ⟨y, by rw [List.getElem?_append_left (by omega)]; exact hy⟩
          · refine ⟨v + bb - aa - less, ?_⟩
            rw [List.getElem?_append_right (by omega), show k - row.length = 0 by omega]
            rfl
        · intro k a b a' b' e1 e2 e3 e4
          by_cases hk : k + 1 < row.length
          · rw [List.getElem?_append_left hk] at e4
            rw [List.getElem?_append_left (by omega)] at e3
            exact nrow k a b a' b' e1 e2 e3 e4
          · have hk2 : k + 1 < (row ++ [some (v + bb - aa - less)]).length := (List.getElem?_eq_some_iff.mp e4).1
            rw [List.length_append] at hk2
            have ek : k = j := by simp at hk2; omega
            subst ek
            rw [List.getElem?_append_left (by omega), hv] at e3
            rw [List.getElem?_append_right (by omega), show k + 1 - row.length = 0 by omega] at e4
            rw [haa] at e1
            rw [hbb] at e2
            cases e1
            cases e2
            cases e3
            cases e4
            omega
      · obtain ⟨z4, z8, z9, row, rfl, DE, kE, WE, lrow, frow, nrow⟩ := hp
        have RE := kE R _ niR RC
        refine ⟨.ref R, rfl, .inl ⟨rfl, _, lOf RE⟩, .ref Wd, rfl, R, _, _, rfl, rfl, RE, by rw [List.length_map]; exact Nat.lt_of_le_of_lt (show ps.length ≤ 12 by omega) (by decide), ?_⟩
        have hpsE : ∀ (i : Nat) b row, ps[i]? = some b → rows[i]? = some row → He b = some (.lst (row.map ov)) := fun m b r e1 e2 => kE b _ (hpb b (List.mem_of_getElem? e1)) (kC b _ (hpb b (List.mem_of_getElem? e1)) (hps m b r e1 e2))
        obtain ⟨_, ps', q1, q2, q3, q4⟩ := LAt.push (M := [d, c]) niR RE lp hpb hpsE niW WE neRW.symm
        refine ⟨_, _, _, _, _, ps', rows ++ [row], rfl, DE.up niR, ((kA.trans kC).trans kE).mut nR, q1, q2, by rw [List.length_append, lr]; rfl, q3, q4, ?_, ?_⟩
        · intro r hrm
          rcases List.mem_append.mp hrm with z | z
          · exact fw r z
          · rw [List.mem_singleton.mp z]
            exact ⟨by omega, fun k hk => frow k (by omega)⟩
        · intro m r r' e1 e2
          by_cases hm : m + 1 < rows.length
          · rw [List.getElem?_append_left hm] at e2
            rw [List.getElem?_append_left (by omega)] at e1
            exact nb m r r' e1 e2
          · have hm2 : m + 1 < (rows ++ [row]).length := (List.getElem?_eq_some_iff.mp e2).1
            rw [List.length_append] at hm2
            have em : m = i := by simp at hm2; omega
            subst em
            rw [List.getElem?_append_right (by omega), show m + 1 - rows.length = 0 by omega] at e2
            rw [List.getElem?_append_left (by omega), hlast] at e1
            cases e1
            cases e2
            exact nrow
    · obtain ⟨y4, y6, y7, y8, y9, ps, rows, rfl, DA, kA, RA, lp, lr, hpb, hps, fw, nb⟩ := hp
      exact ⟨.ref R, rfl, q R rows Ha (kk2.backM niR nR) ⟨niR, ps, RA, lp, hpb, hps⟩ (by omega) fw nb DA (kk2.trans kA)⟩
end
end K16

namespace K16
open PySem PySem.Spec PyProof.Rows L2 GenW BT
section
variable {P : Program} {w : World} {K : PySem.W.Frag} {mg : Str → Option Value} {base : Heap}
def spBends (K : PySem.W.Frag) : Sp := fun vs H Q _ => ∃ (a : Addr) (rows : Rows) (wide : Nat), vs = [.ref a] ∧ RowsAt K H a rows ∧ 0 < rows.length ∧ rows.length ≤ 13 ∧ (∀ r ∈ rows, r.length = wide) ∧ wide ≤ 12 ∧ ∀ b : Bool, (b = true ↔ Bend rows) → Q (.bl b) H
theorem ok_bends (T : Txt K mg) {k : Nat} : FnOk P w K mg base CX0 (k + 1) T.law_bends.f T.law_bends.fd p_law_bends (spBends K) := by
  refine T.law_bends.F.ok sc_law_bends (fun vs H Q E h => ?_) (fun cdv A outer s H vs Q E hr h => ?_)
  · obtain ⟨a, rows, wide, rfl, _⟩ := h
    rfl
  · obtain ⟨a, rows, wide, rfl, hR, hl0, hl1, hw, hw1, q⟩ := h
    have nd := sc_law_bends.nd
    refine ⟨_, (pss_cons (ps_set (i := 1) nd rfl (Or.inl rfl) (pe_callB (lenK K) (by rfl) T.b_len PySem.boot_len (pa_cons (pe_ix (ixSK K) (pv 0) pe_int (fun _ _ => rfl)) pa_nil)))
        (pss_cons (ps_for PassesOwn.never rfl (pi_range1 (by rfl) T.b_range (pa_cons (pe_callB (lenK K) (by rfl) T.b_len PySem.boot_len (pa_cons (pv 0) pa_nil)) pa_nil)) (pg_name (i := 2) nd rfl (Or.inl rfl)) (pss_one (ps_for PassesOwn.never rfl (pi_range2 (by rfl) T.b_range (pa_cons (pe_op op_add (pv 2) pe_int) (pa_cons (pe_callB (lenK K) (by rfl) T.b_len PySem.boot_len (pa_cons (pv 0) pa_nil)) pa_nil))) (pg_name (i := 3) nd rfl (Or.inl rfl)) (pss_one (ps_for PassesOwn.never rfl (pi_range1 (by rfl) T.b_range (pa_cons (pv 1) pa_nil)) (pg_name (i := 4) nd rfl (Or.inl rfl)) (pss_one (ps_for PassesOwn.never rfl (pi_range2 (by rfl) T.b_range (pa_cons (pe_op op_add (pv 4) pe_int) (pa_cons (pv 1) pa_nil))) (pg_name (i := 5) nd rfl (Or.inl rfl)) (pss_one (ps_if (PW.pt (pw_and (pt_cmpR op_notN (pe_ix (ixSK K) (pe_ix (ixSK K) (pv 0) (pv 2) (fun _ _ => rfl)) (pv 5) (fun _ _ => rfl)) pe_non (nomark _)) (pw_and1 (pt_cmpR op_notN (pe_ix (ixSK K) (pe_ix (ixSK K) (pv 0) (pv 3) (fun _ _ => rfl)) (pv 4) (fun _ _ => rfl)) pe_non (nomark _))))) (pss_cons (ps_if (PW.pt (pw_or (pt_cmpR op_isN (pe_ix (ixSK K) (pe_ix (ixSK K) (pv 0) (pv 2) (fun _ _ => rfl)) (pv 4) (fun _ _ => rfl)) pe_non (nomark _)) (pw_or1 (pt_cmpR op_isN (pe_ix (ixSK K) (pe_ix (ixSK K) (pv 0) (pv 3) (fun _ _ => rfl)) (pv 5) (fun _ _ => rfl)) pe_non (nomark _))))) (pss_one (ps_ret pe_bl)) pss_nil)
        (pss_cons (ps_set (i := 6) nd rfl (Or.inl rfl) (pe_op op_add (pe_ix (ixSK K) (pe_ix (ixSK K) (pv 0) (pv 2) (fun _ _ => rfl)) (pv 5) (fun _ _ => rfl)) (pe_ix (ixSK K) (pe_ix (ixSK K) (pv 0) (pv 3) (fun _ _ => rfl)) (pv 4) (fun _ _ => rfl))))
        (pss_one (ps_if (pt_cmpR op_gt (pe_op op_add (pe_ix (ixSK K) (pe_ix (ixSK K) (pv 0) (pv 2) (fun _ _ => rfl)) (pv 4) (fun _ _ => rfl)) (pe_ix (ixSK K) (pe_ix (ixSK K) (pv 0) (pv 3) (fun _ _ => rfl)) (pv 5) (fun _ _ => rfl))) (pv 6) (nomark _)) (pss_one (ps_ret pe_bl)) pss_nil)))) pss_nil)))))))))
        (pss_one (ps_ret pe_bl)))), ?_⟩
    obtain ⟨ps, hA, lp, hB⟩ := hR
    have hp0 : ps[0]? = some ps[0] := List.getElem?_eq_getElem (by omega)
    have hr0 : rows[0]? = some rows[0] := List.getElem?_eq_getElem (by omega)
    have lr0 : rows[0].length = wide := hw _ (List.getElem_mem _)
    have ew : (((rows[0].map ov).length : Nat) : Int) = wide := by rw [List.length_map, lr0]
    refine ⟨.ref a, rfl, a, _, _, .ref ps[0], rfl, rfl, hA, at_i (n := 0) rfl (by rw [List.getElem?_map, hp0]; rfl), ps[0], _, rfl, hB 0 _ _ hp0 hr0, ?_⟩
    rw [ew]
    have el : (((ps.map V.ref).length : Nat) : Int) = rows.length := by rw [List.length_map, lp]
    have no : ∀ i j k l : Nat, i < j → k < l → ¬ Okq rows i j k l → Q (.bl false) H := fun i j k l h1 h2 h3 => q false ⟨fun z => (by cases z), fun z => (h3 (z i j k l h1 h2)).elim⟩
    refine ⟨.ref a, rfl, a, _, rfl, hA, rows.length, by rw [el], by omega, by omega, ?_⟩
    rw [show ((rows.length : Nat) : Int).toNat = rows.length from Int.toNat_natCast _]
    refine for_it walk_range (fun i σ H' => ∃ (y2 y3 y4 y5 y6 : Option V), σ = [some (.ref a), some (.int wide), y2, y3, y4, y5, y6] ∧ H' = H ∧ ∀ i' j' k' l', i' < i → i' < j' → k' < l' → Okq rows i' j' k' l')
      ⟨none, none, none, none, none, rfl, rfl, fun i' _ _ _ h => absurd h (Nat.not_lt_zero _)⟩ (fun _ _ _ _ _ => trivial) (fun i x σ Ha Hb hi hp hy => ?_) fun σ Ha hp => ?_
    · obtain ⟨y2, y3, y4, y5, y6, rfl, rfl, hd⟩ := hp
      obtain ⟨rfl, rfl⟩ := hy
      refine ⟨.int (0 + (i : Nat)), rfl, _, 1, rfl, rfl, .ref a, rfl, a, _, rfl, hA, 0 + (i : Nat) + 1, rows.length, by rw [el], ⟨by omega, by omega, by omega, by omega⟩, ?_⟩
      rw [show (((rows.length : Nat) : Int) - (0 + (i : Nat) + 1)).toNat = rows.length - (i + 1) by omega]
      refine for_it walk_range (fun m σ H' => ∃ (y3 y4 y5 y6 : Option V), σ = [some (.ref a), some (.int wide), some (.int (0 + (i : Nat))), y3, y4, y5, y6] ∧ H' = Hb ∧ ∀ j' k' l', j' < i + 1 + m → i < j' → k' < l' → Okq rows i j' k' l')
        ⟨y3, y4, y5, y6, rfl, rfl, fun j' _ _ h1 h2 => by omega⟩ (fun _ _ _ _ _ => trivial) (fun m x σ Hc Hd hm hp hy => ?_) fun σ Hc hp => ?_
      · obtain ⟨y3, y4, y5, y6, rfl, rfl, hd2⟩ := hp
        obtain ⟨rfl, rfl⟩ := hy
        generalize hj : i + 1 + m = j at hd2
        have ej : (0 + (i : Nat) + 1 + (m : Nat) : Int) = (j : Nat) := by omega
        have hij : i < j := by omega
        have hjl : j < rows.length := by omega
        refine ⟨.int wide, rfl, wide, rfl, by omega, by omega, ?_⟩
        rw [show ((wide : Nat) : Int).toNat = wide from Int.toNat_natCast _]
        refine for_it walk_range (fun n σ H' => ∃ (y4 y5 y6 : Option V), σ = [some (.ref a), some (.int wide), some (.int (0 + (i : Nat))), some (.int (0 + (i : Nat) + 1 + (m : Nat))), y4, y5, y6] ∧ H' = Hd ∧ ∀ k' l', k' < n → k' < l' → Okq rows i j k' l')
          ⟨y4, y5, y6, rfl, rfl, fun k' _ h => absurd h (Nat.not_lt_zero _)⟩ (fun _ _ _ _ _ => trivial) (fun kk x σ He Hf hk hp hy => ?_) fun σ He hp => ?_
        · obtain ⟨y4, y5, y6, rfl, rfl, hd3⟩ := hp
          obtain ⟨rfl, rfl⟩ := hy
          refine ⟨.int (0 + (kk : Nat)), rfl, _, 1, rfl, rfl, .int wide, rfl, 0 + (kk : Nat) + 1, wide, rfl, ⟨by omega, by omega, by omega, by omega⟩, ?_⟩
          rw [show (((wide : Nat) : Int) - (0 + (kk : Nat) + 1)).toNat = wide - (kk + 1) by omega]
          refine for_it walk_range (fun t σ H' => ∃ (y5 y6 : Option V), σ = [some (.ref a), some (.int wide), some (.int (0 + (i : Nat))), some (.int (0 + (i : Nat) + 1 + (m : Nat))), some (.int (0 + (kk : Nat))), y5, y6] ∧ H' = Hf ∧ ∀ l', l' < kk + 1 + t → kk < l' → Okq rows i j kk l')
            ⟨y5, y6, rfl, rfl, fun l' h1 h2 => by omega⟩ (fun _ _ _ _ _ => trivial) (fun t x σ Hg Hh ht hp hy => ?_) fun σ Hg hp => ?_
          · obtain ⟨y5, y6, rfl, rfl, hd4⟩ := hp
            obtain ⟨rfl, rfl⟩ := hy
            generalize hll : kk + 1 + t = l at hd4
            have elz : (0 + (kk : Nat) + 1 + (t : Nat) : Int) = (l : Nat) := by omega
            have hkl : kk < l := by omega
            have hlw : l < wide := by omega
            have nx : Okq rows i j kk l → ∀ l', l' < kk + 1 + (t + 1) → kk < l' → Okq rows i j kk l' := fun h l' h1 h2 => by
              by_cases e : l' < l
              · exact hd4 l' e h2
              · have : l' = l := by omega
                rw [this]
                exact h
            obtain ⟨b1, r1, f1, f2, f3⟩ := RowsAt.at lp hB hw (zi := 0 + (i : Nat)) (zk := 0 + (kk : Nat) + 1 + (t : Nat)) (Int.zero_add _) elz hi hlw
            obtain ⟨b2, r2, g1, g2, g3⟩ := RowsAt.at lp hB hw (zi := 0 + (i : Nat) + 1 + (m : Nat)) (zk := 0 + (kk : Nat)) ej (Int.zero_add _) hjl hk
            obtain ⟨b3, r3, u1, u2, u3⟩ := RowsAt.at lp hB hw (zi := 0 + (i : Nat)) (zk := 0 + (kk : Nat)) (Int.zero_add _) (Int.zero_add _) hi hk
            obtain ⟨b4, r4, v1, v2, v3⟩ := RowsAt.at lp hB hw (zi := 0 + (i : Nat) + 1 + (m : Nat)) (zk := 0 + (kk : Nat) + 1 + (t : Nat)) ej elz hjl hlw
            refine ⟨.ref a, rfl, .int (0 + (i : Nat)), rfl, a, _, _, .ref b1, rfl, rfl, hA, f1, .int (0 + (kk : Nat) + 1 + (t : Nat)), rfl, b1, _, _, _, rfl, rfl, f2, f3, rfl, _, rfl, ?_⟩
            cases c1 : cell rows i l with
            | none =>
              exact iteF (iteF ⟨_, _, rfl, rfl, nx fun x y hx _ => by rw [c1] at hx; cases hx⟩)
            | some x1 =>
              refine iteT ⟨.ref a, rfl, .int (0 + (i : Nat) + 1 + (m : Nat)), rfl, a, _, _, .ref b2, rfl, rfl, hA, g1, .int (0 + (kk : Nat)), rfl, b2, _, _, _, rfl, rfl, g2, g3, rfl, _, rfl, ?_⟩
              cases c2 : cell rows j kk with
              | none =>
                exact iteF ⟨_, _, rfl, rfl, nx fun x y _ hy => by rw [c2] at hy; cases hy⟩
              | some x2 =>
                refine iteT ?_
                refine ⟨.ref a, rfl, .int (0 + (i : Nat)), rfl, a, _, _, .ref b3, rfl, rfl, hA, u1, .int (0 + (kk : Nat)), rfl, b3, _, _, _, rfl, rfl, u2, u3, rfl, _, rfl, ?_⟩
                cases c3 : cell rows i kk with
                | none =>
                  refine iteT (iteT ?_)
                  refine no i j kk l hij hkl fun z => ?_
                  obtain ⟨x, y, hx, _⟩ := z x1 x2 c1 c2
                  rw [c3] at hx
                  cases hx
                | some x3 =>
                  refine iteF ⟨.ref a, rfl, .int (0 + (i : Nat) + 1 + (m : Nat)), rfl, a, _, _, .ref b4, rfl, rfl, hA, v1, .int (0 + (kk : Nat) + 1 + (t : Nat)), rfl, b4, _, _, _, rfl, rfl, v2, v3, rfl, _, rfl, ?_⟩
                  cases c4 : cell rows j l with
                  | none =>
                    refine iteT ?_
                    refine no i j kk l hij hkl fun z => ?_
                    obtain ⟨x, y, _, hy, _⟩ := z x1 x2 c1 c2
                    rw [c4] at hy
                    cases hy
                  | some x4 =>
                    refine iteF ?_
                    rw [c1] at f3
                    rw [c2] at g3
                    rw [c3] at u3
                    rw [c4] at v3
                    refine ⟨.ref a, rfl, .int (0 + (i : Nat)), rfl, a, _, _, .ref b1, rfl, rfl, hA, f1, .int (0 + (kk : Nat) + 1 + (t : Nat)), rfl, b1, _, _, .int x1, rfl, rfl, f2, f3, .ref a, rfl, .int (0 + (i : Nat) + 1 + (m : Nat)), rfl, a, _, _, .ref b2, rfl, rfl, hA, g1, .int (0 + (kk : Nat)), rfl, b2, _, _, .int x2, rfl, rfl, g2, g3, x1, x2, rfl, rfl, ?_⟩
                    refine ⟨.ref a, rfl, .int (0 + (i : Nat)), rfl, a, _, _, .ref b3, rfl, rfl, hA, u1, .int (0 + (kk : Nat)), rfl, b3, _, _, .int x3, rfl, rfl, u2, u3, .ref a, rfl, .int (0 + (i : Nat) + 1 + (m : Nat)), rfl, a, _, _, .ref b4, rfl, rfl, hA, v1, .int (0 + (kk : Nat) + 1 + (t : Nat)), rfl, b4, _, _, .int x4, rfl, rfl, v2, v3, x3, x4, rfl, rfl, .int (x1 + x2), rfl, _, _, rfl, rfl, _, rfl, ite2 (fun e => ?_) fun e => ?_⟩
                    · refine no i j kk l hij hkl fun z => ?_
                      obtain ⟨x, y, hx, hy, hxy⟩ := z x1 x2 c1 c2
                      rw [c3] at hx
                      rw [c4] at hy
                      cases hx
                      cases hy
                      have e' := of_decide_eq_true e
                      omega
                    · refine ⟨_, _, rfl, rfl, nx fun x y hx hy => ?_⟩
                      rw [c1] at hx
                      rw [c2] at hy
                      cases hx
                      cases hy
                      have e' : ¬ (x1 + x2 < x3 + x4) := fun z => e (decide_eq_true z)
                      exact ⟨x3, x4, c3, c4, by omega⟩
          · obtain ⟨y5, y6, rfl, rfl, hd4⟩ := hp
            refine ⟨_, _, _, rfl, rfl, fun k' l' h1 h2 => ?_⟩
            by_cases e : k' < kk
            · exact hd3 k' l' e h2
            · have : k' = kk := by omega
              subst this
              by_cases e2 : l' < wide
              · exact hd4 l' (by omega) h2
              · exact okq_ol hw (by omega)
        · obtain ⟨y4, y5, y6, rfl, rfl, hd3⟩ := hp
          refine ⟨_, _, _, _, rfl, rfl, fun j' k' l' h1 h2 h3 => ?_⟩
          by_cases e : j' < j
          · exact hd2 j' k' l' e h2 h3
          · have : j' = j := by omega
            subst this
            by_cases e2 : k' < wide
            · exact hd3 k' l' e2 h3
            · exact okq_ol hw (by omega)
      · obtain ⟨y3, y4, y5, y6, rfl, rfl, hd2⟩ := hp
        refine ⟨_, _, _, _, _, rfl, rfl, fun i' j' k' l' h1 h2 h3 => ?_⟩
        by_cases e : i' < i
        · exact hd i' j' k' l' e h2 h3
        · have : i' = i := by omega
          subst this
          by_cases e2 : j' < rows.length
          · exact hd2 j' k' l' (by omega) h2 h3
          · exact okq_oj (by omega)
    · obtain ⟨y2, y3, y4, y5, y6, rfl, rfl, hd⟩ := hp
      refine q true ⟨fun _ i j k l h1 h2 => ?_, fun _ => rfl⟩
      by_cases e : j < rows.length
      · exact hd i j k l (by omega) h1 h2
      · exact okq_oj (by omega)
end
end K16

namespace K16
open PySem PySem.Spec PyProof.Rows L2 GenW BT
def PairsAt (H : Hp) (ps : List Addr) (fl : Nat → Nat × Nat) : Prop := ∀ (i : Nat) (b : Addr), ps[i]? = some b → H b = some (.tup [.int ((fl i).1 : Nat), .int ((fl i).2 : Nat)])
theorem PairsAt.kp {H H' : Hp} {ps : List Addr} {fl : Nat → Nat × Nat} {M : List Addr} (h : PairsAt H ps fl) (k : Kp M H H') (n : NT M H) : PairsAt H' ps fl := fun i b e => k _ _ (n.ni (h i b e)) (h i b e)
theorem PairsAt.up {H : Hp} {ps : List Addr} {fl : Nat → Nat × Nat} {D : Addr} {o : HO} {ys : List V} (h : PairsAt H ps fl) (hD : H D = some (.lst ys)) : PairsAt (upd H D o) ps fl := fun i b e => by
  rw [upd_ne (fun z => by have := h i b e; rw [z, hD] at this; cases this)]
  exact h i b e
theorem PairsAt.push {H : Hp} {ps : List Addr} {fl : Nat → Nat × Nat} {b : Addr} (h : PairsAt H ps fl) (hb : H b = some (.tup [.int ((fl ps.length).1 : Nat), .int ((fl ps.length).2 : Nat)])) : PairsAt H (ps ++ [b]) fl := fun i p e => by
  by_cases hi : i < ps.length
  · rw [List.getElem?_append_left hi] at e
    exact h i p e
  · have hil : i < (ps ++ [b]).length := (List.getElem?_eq_some_iff.mp e).1
    rw [List.length_append] at hil
    have ei : i = ps.length := by simp at hil; omega
    subst ei
    rw [List.getElem?_append_right (Nat.le_refl _), Nat.sub_self] at e
    cases e
    exact hb
def StepR (fl : Nat → Nat × Nat) (many wide : Nat) : Prop := (∀ i, i < many → (fl i).1 ≤ (fl i).2 ∧ (fl i).2 < wide) ∧ ∀ i j, i < j → j < many → (fl i).1 ≤ (fl j).1 ∧ (fl i).2 ≤ (fl j).2
def flOf (n1 n2 : List Int) (i : Nat) : Nat × Nat := ((n1.getD i 0).toNat, (if n2.getD i 0 > n1.getD i 0 then n2.getD i 0 else n1.getD i 0).toNat)
theorem flOf_step {n1 n2 : List Int} {many wide : Nat} (h1 : n1.length = many) (h2 : n2.length = many) (b1 : ∀ x ∈ n1, 0 ≤ x ∧ x < wide) (b2 : ∀ x ∈ n2, 0 ≤ x ∧ x < wide) (s1 : n1.Pairwise (· ≤ ·)) (s2 : n2.Pairwise (· ≤ ·)) : StepR (flOf n1 n2) many wide := by
  have g1 : ∀ i, i < many → 0 ≤ n1.getD i 0 ∧ n1.getD i 0 < wide := fun i hi => by
    rw [List.getD_eq_getElem?_getD, List.getElem?_eq_getElem (by omega)]
    exact b1 _ (List.getElem_mem _)
  have g2 : ∀ i, i < many → 0 ≤ n2.getD i 0 ∧ n2.getD i 0 < wide := fun i hi => by
    rw [List.getD_eq_getElem?_getD, List.getElem?_eq_getElem (by omega)]
    exact b2 _ (List.getElem_mem _)
  refine ⟨fun i hi => ?_, fun i j hij hj => ?_⟩
  · have a1 := g1 i hi
    have a2 := g2 i hi
    unfold flOf
    dsimp only
    split <;> omega
  · have a1 := g1 i (by omega)
    have a2 := g2 i (by omega)
    have a3 := g1 j hj
    have a4 := g2 j hj
    have m1 : n1.getD i 0 ≤ n1.getD j 0 := by
      rw [List.getD_eq_getElem?_getD, List.getElem?_eq_getElem (by omega), List.getD_eq_getElem?_getD, List.getElem?_eq_getElem (by omega)]
      exact List.pairwise_iff_getElem.mp s1 i j (by omega) (by omega) hij
    have m2 : n2.getD i 0 ≤ n2.getD j 0 := by
      rw [List.getD_eq_getElem?_getD, List.getElem?_eq_getElem (by omega), List.getD_eq_getElem?_getD, List.getElem?_eq_getElem (by omega)]
      exact List.pairwise_iff_getElem.mp s2 i j (by omega) (by omega) hij
    unfold flOf
    dsimp only
    split <;> split <;> omega
section
variable {P : Program} {w : World} {K : PySem.W.Frag} {mg : Str → Option Value} {base : Heap}
def spStr : Sp := fun vs H Q _ => ∃ (d c : Addr) (many wide : Nat), vs = [.ref d, .int many, .int wide] ∧ Dk d c H ∧ 1 ≤ many ∧ many ≤ 12 ∧ 1 ≤ wide ∧ wide ≤ 12 ∧
  ∀ S ps fl H', H' S = some (.tup (ps.map V.ref)) → ps.length = many → PairsAt H' ps fl → StepR fl many wide → Dk d c H' → Kp [d, c] H H' → Q (.ref S) H'
theorem ok_stretches (T : Txt K mg) {k : Nat} : FnOk P w K mg base CX0 (k + 2) T.law_stretches.f T.law_stretches.fd p_law_stretches spStr := by
  have G_law_draw : FnOk P w K mg base CX0 1 T.law_draw.f T.law_draw.fd p_law_draw spDraw := ok_draw T
  refine T.law_stretches.F.ok sc_law_stretches (fun vs H Q E h => ?_) (fun cdv A outer s H vs Q E hr h => ?_)
  · obtain ⟨d, c, many, wide, rfl, _⟩ := h
    rfl
  · obtain ⟨d, c, many, wide, rfl, hD, m0, m1, w0, w1, q⟩ := h
    replace hr := hr.mono (show 1 ≤ k + 1 by omega)
    have nd := sc_law_stretches.nd
    refine ⟨_, (pss_cons (ps_if (pt_cmpR op_eq (pe_call G_law_draw (hr.mono (by decide)) (by rfl) T.law_draw.g T.law_draw.F.kp T.law_draw.b .nil pass0 (pa_cons (pv 0) (pa_cons pe_int pa_nil))) pe_int (nomark _)) (pss_one (ps_ret (pe_callTy (tupK K) (by rfl) T.b_tuple (by decide +kernel) (pa_cons (pe_lc (own := [("_law_i", 5)]) rfl nd (pi_range1 (by rfl) T.b_range (pa_cons (pv 1) pa_nil)) (blkOk_by (own := [("_law_i", 5)]) (N := n_law_stretches) (sc := defScope s_law_stretches) (by decide +kernel)) (fun _ _ _ _ _ => (pg_name (i := 5) nd rfl (Or.inl rfl))) (fun _ _ _ _ _ => pts_nil) (fun _ _ _ _ _ => (pe_tup (pa_cons pe_int (pa_cons (pe_op op_sub (pv 2) pe_int) pa_nil))))) pa_nil)))) pss_nil)
        (pss_cons (ps_set (i := 3) nd rfl (Or.inl rfl) (pe_callB (sorK K) (by rfl) T.b_sorted (by decide +kernel) (pa_cons (pe_lc (own := [("_law_i", 5)]) rfl nd (pi_range1 (by rfl) T.b_range (pa_cons (pv 1) pa_nil)) (blkOk_by (own := [("_law_i", 5)]) (N := n_law_stretches) (sc := defScope s_law_stretches) (by decide +kernel)) (fun _ _ _ _ _ => (pg_name (i := 5) nd rfl (Or.inl rfl))) (fun _ _ _ _ _ => pts_nil) (fun _ _ _ _ _ => (pe_call G_law_draw (hr.mono (by decide)) (by rfl) T.law_draw.g T.law_draw.F.kp T.law_draw.b .nil pass0 (pa_cons (pv 0) (pa_cons (pv 2) pa_nil))))) pa_nil)))
        (pss_cons (ps_set (i := 4) nd rfl (Or.inl rfl) (pe_callB (sorK K) (by rfl) T.b_sorted (by decide +kernel) (pa_cons (pe_lc (own := [("_law_i", 5)]) rfl nd (pi_range1 (by rfl) T.b_range (pa_cons (pv 1) pa_nil)) (blkOk_by (own := [("_law_i", 5)]) (N := n_law_stretches) (sc := defScope s_law_stretches) (by decide +kernel)) (fun _ _ _ _ _ => (pg_name (i := 5) nd rfl (Or.inl rfl))) (fun _ _ _ _ _ => pts_nil) (fun _ _ _ _ _ => (pe_call G_law_draw (hr.mono (by decide)) (by rfl) T.law_draw.g T.law_draw.F.kp T.law_draw.b .nil pass0 (pa_cons (pv 0) (pa_cons (pv 2) pa_nil))))) pa_nil)))
        (pss_one (ps_ret (pe_callTy (tupK K) (by rfl) T.b_tuple (by decide +kernel) (pa_cons (pe_lc (own := [("_law_low", 6), ("_law_high", 7)]) rfl nd (pzTK K (by rfl) T.b_zip (pa_cons (pv 3) (pa_cons (pv 4) pa_nil))) (blkOk_by (own := [("_law_low", 6), ("_law_high", 7)]) (N := n_law_stretches) (sc := defScope s_law_stretches) (by decide +kernel)) (fun _ _ _ _ _ => (pgTK K (n := 2) (by rfl) (pgs_cons (pg_name (i := 6) nd rfl (Or.inl rfl)) (pgs_cons (pg_name (i := 7) nd rfl (Or.inl rfl)) pgs_nil)))) (fun _ _ _ _ _ => pts_nil) (fun _ _ _ _ _ => (pe_tup (pa_cons (pv 6) (pa_cons (pe_callB (call_max2 rfl) (by rfl) T.b_max (by decide +kernel) (pa_cons (pv 6) (pa_cons (pv 7) pa_nil))) pa_nil))))) pa_nil))))))), ?_⟩
    refine ⟨.ref d, rfl, d, c, 3, rfl, hD, by decide, by decide, fun r H1 _ _ D1 k1 => ?_⟩
    refine ⟨rfl, _, rfl, ite2 (fun _ => ?_) fun _ => ?_⟩
    · refine ⟨.int many, rfl, many, rfl, by omega, by omega, fun D nD => ?_⟩
      have niD := D1.ni nD
      rw [show ((many : Nat) : Int).toNat = many from Int.toNat_natCast _]
      refine lc_it walk_range (fun i H' => Dk d c H' ∧ Kp [d, c] H1 H' ∧ ∃ ps : List Addr, H' D = some (.lst (ps.map V.ref)) ∧ ps.length = i ∧ PairsAt H' ps (fun _ => (0, wide - 1))) ⟨D1.new nD, Kp.new nD, [], upd_same, rfl, fun i b e => by simp at e⟩ (fun _ _ _ _ => trivial) (fun i x Ha Hb hi hp hy => ?_) fun H2 hp => ?_
      · obtain ⟨DA, kA, ps, hx, lx, pa⟩ := hp
        obtain ⟨rfl, rfl⟩ := hy
        refine ⟨rfl, .int wide, rfl, _, 1, rfl, rfl, (show (2 : Nat) ≤ sizeLine by decide), fun p np => ?_⟩
        have kp : Kp [d, c] Hb (upd Hb p (.tup [.int 0, .int ((wide : Nat) - 1)])) := Kp.new np
        have hx' := kp D _ niD hx
        refine ⟨_, hx', by rw [List.length_map]; exact Nat.lt_of_le_of_lt (show ps.length ≤ 12 by omega) (by decide), (DA.new np).up niD, (kA.trans kp).mut nD, ps ++ [p], ?_, ?_, ?_⟩
        · rw [upd_same, List.map_append]; rfl
        · rw [List.length_append, lx]; rfl
        · refine PairsAt.up (PairsAt.push (pa.kp (M := []) (Kp.new np) NT.nil) ?_) hx'
          rw [upd_same]
          have : ((wide - 1 : Nat) : Int) = (wide : Nat) - 1 := by omega
          dsimp only
          rw [this]
          rfl
      · obtain ⟨DA, kA, ps, hx, lx, pa⟩ := hp
        refine ⟨D, _, rfl, .inl ⟨lOf hx, fun l nl => ?_⟩⟩
        refine q l ps _ _ upd_same lx (pa.kp (M := []) (Kp.new nl) NT.nil) ⟨fun i hi => ⟨Nat.zero_le _, by dsimp only; omega⟩, fun i j _ _ => ⟨Nat.le_refl _, Nat.le_refl _⟩⟩ (DA.new nl) ((k1.trans kA).trans (Kp.new nl))
    · -- lows
      refine ⟨.int many, rfl, many, rfl, by omega, by omega, fun D nD => ?_⟩
      have niD := D1.ni nD
      rw [show ((many : Nat) : Int).toNat = many from Int.toNat_natCast _]
      refine lc_it walk_range (fun i H' => Dk d c H' ∧ Kp [d, c] H1 H' ∧ ∃ ns : List Int, H' D = some (.lst (ns.map V.int)) ∧ ns.length = i ∧ ∀ x ∈ ns, 0 ≤ x ∧ x < wide) ⟨D1.new nD, Kp.new nD, [], upd_same, rfl, fun i e => by cases e⟩ (fun _ _ _ _ => trivial) (fun i x Ha Hb hi hp hy => ?_) fun H2 hp => ?_
      · obtain ⟨DA, kA, ns, hx, lx, pa⟩ := hp
        obtain ⟨rfl, rfl⟩ := hy
        refine ⟨rfl, .ref d, rfl, .int wide, rfl, d, c, wide, rfl, DA, by omega, by omega, fun z Hc z0 z1 DC kC => ?_⟩
        refine ⟨_, kC D _ niD hx, by rw [List.length_map]; exact Nat.lt_of_le_of_lt (show ns.length ≤ 12 by omega) (by decide), DC.up niD, (kA.trans kC).mut nD, ns ++ [z], ?_, ?_, ?_⟩
        · rw [upd_same, List.map_append]; rfl
        · rw [List.length_append, lx]; rfl
        · intro y hy
          rcases List.mem_append.mp hy with e | e
          · exact pa y e
          · rw [List.mem_singleton.mp e]; exact ⟨z0, z1⟩
      obtain ⟨D2, k2, ns1, hx1, lx1, b1⟩ := hp
      refine ⟨D, ns1, rfl, lOf hx1, by omega, fun n1 L1 p1 s1 nL1 => ?_⟩
      have lt1 : n1.length = many := by rw [p1.length_eq, lx1]
      have bb1 : ∀ x ∈ n1, 0 ≤ x ∧ x < wide := fun x hx => b1 x (p1.mem_iff.mp hx)
      have niL1 := D2.ni nL1
      have D3 := D2.new (o := .lst (n1.map V.int)) nL1
      have k3 : Kp [d, c] H (upd H2 L1 (.lst (n1.map V.int))) := (k1.trans k2).trans (Kp.new nL1)
      have e3 : upd H2 L1 (.lst (n1.map V.int)) L1 = some (.lst (n1.map V.int)) := upd_same
      generalize upd H2 L1 (.lst (n1.map V.int)) = H3 at D3 k3 e3 ⊢
      -- highs
      refine ⟨.int many, rfl, many, rfl, by omega, by omega, fun D' nD' => ?_⟩
      have niD' := D3.ni nD'
      rw [show ((many : Nat) : Int).toNat = many from Int.toNat_natCast _]
      refine lc_it walk_range (fun i H' => Dk d c H' ∧ Kp [d, c] H3 H' ∧ ∃ ns : List Int, H' D' = some (.lst (ns.map V.int)) ∧ ns.length = i ∧ ∀ x ∈ ns, 0 ≤ x ∧ x < wide) ⟨D3.new nD', Kp.new nD', [], upd_same, rfl, fun i e => by cases e⟩ (fun _ _ _ _ => trivial) (fun i x Ha Hb hi hp hy => ?_) fun H4 hp => ?_
      · obtain ⟨DA, kA, ns, hx, lx, pa⟩ := hp
        obtain ⟨rfl, rfl⟩ := hy
        refine ⟨rfl, .ref d, rfl, .int wide, rfl, d, c, wide, rfl, DA, by omega, by omega, fun z Hc z0 z1 DC kC => ?_⟩
        refine ⟨_, kC D' _ niD' hx, by rw [List.length_map]; exact Nat.lt_of_le_of_lt (show ns.length ≤ 12 by omega) (by decide), DC.up niD', (kA.trans kC).mut nD', ns ++ [z], ?_, ?_, ?_⟩
        · rw [upd_same, List.map_append]; rfl
        · rw [List.length_append, lx]; rfl
        · intro y hy
          rcases List.mem_append.mp hy with e | e
          · exact pa y e
          · rw [List.mem_singleton.mp e]; exact ⟨z0, z1⟩
      obtain ⟨D4, k4, ns2, hx2, lx2, b2⟩ := hp
      refine ⟨D', ns2, rfl, lOf hx2, by omega, fun n2 L2 p2 s2 nL2 => ?_⟩
      have lt2 : n2.length = many := by rw [p2.length_eq, lx2]
      have bb2 : ∀ x ∈ n2, 0 ≤ x ∧ x < wide := fun x hx => b2 x (p2.mem_iff.mp hx)
      have D5 := D4.new (o := .lst (n2.map V.int)) nL2
      have niL2 := D4.ni nL2
      have kn : Kp [d, c] H4 (upd H4 L2 (.lst (n2.map V.int))) := Kp.new nL2
      have k5 : Kp [d, c] H (upd H4 L2 (.lst (n2.map V.int))) := (k3.trans k4).trans kn
      have e5 : upd H4 L2 (.lst (n2.map V.int)) L2 = some (.lst (n2.map V.int)) := upd_same
      have e5a := kn L1 _ niL1 (k4 L1 _ niL1 e3)
      generalize upd H4 L2 (.lst (n2.map V.int)) = H5 at D5 k5 e5 e5a ⊢
      refine ⟨.ref L1, rfl, .ref L2, rfl, L1, L2, _, _, rfl, .inl ⟨lOf e5a, lOf e5, fun Z nZ => ?_⟩⟩
      have niZ := D5.ni nZ
      refine lc_it (walk_zip (xs := n1.map V.int) (ys := n2.map V.int) (n := many) (by rw [List.length_map, List.length_map, lt1, lt2, Nat.min_self])) (fun i H' => Dk d c H' ∧ Kp [d, c] H5 H' ∧ ∃ ps : List Addr, H' Z = some (.lst (ps.map V.ref)) ∧ ps.length = i ∧ PairsAt H' ps (flOf n1 n2)) ⟨D5.new nZ, Kp.new nZ, [], upd_same, rfl, fun i b e => by simp at e⟩ (fun i H' hi hp => ⟨lOf (hp.2.1 L1 _ niL1 e5a), lOf (hp.2.1 L2 _ niL2 e5)⟩) (fun i x Ha Hb hi hp hy => ?_) fun H6 hp => ?_
      · obtain ⟨DA, kA, ps, hx, lx, pa⟩ := hp
        obtain ⟨T1, x1, y1, rfl, nT, rfl, hx1, hy1⟩ := hy
        have h1 : n1[i]? = some n1[i] := List.getElem?_eq_getElem (by omega)
        have h2 : n2[i]? = some n2[i] := List.getElem?_eq_getElem (by omega)
        have q1 : n1.getD i 0 = n1[i] := by rw [List.getD_eq_getElem?_getD, h1]; rfl
        have q2 : n2.getD i 0 = n2[i] := by rw [List.getD_eq_getElem?_getD, h2]; rfl
        have z1 := bb1 _ (List.getElem_mem (show i < n1.length by omega))
        have z2 := bb2 _ (List.getElem_mem (show i < n2.length by omega))
        dsimp only at hx1 hy1
        rw [List.getElem?_map, h1] at hx1
        rw [List.getElem?_map, h2] at hy1
        cases hx1
        cases hy1
        have DB := DA.new (o := .tup [.int n1[i], .int n2[i]]) nT
        have kB : Kp [] Ha (upd Ha T1 (.tup [.int n1[i], .int n2[i]])) := Kp.new nT
        have eT : upd Ha T1 (.tup [.int n1[i], .int n2[i]]) T1 = some (.tup [.int n1[i], .int n2[i]]) := upd_same
        generalize upd Ha T1 (.tup [.int n1[i], .int n2[i]]) = HB at DB kB eT ⊢
        refine ⟨T1, [.int n1[i], .int n2[i]], rfl, tOf eT, rfl, .int n1[i], [.int n2[i]], rfl, .int n2[i], [], rfl, rfl, rfl, .int n1[i], rfl, .int n1[i], rfl, .int n2[i], rfl, n1[i], n2[i], rfl, (show (2 : Nat) ≤ sizeLine by decide), fun p np => ?_⟩
        have kp : Kp [] Ha (upd HB p (.tup [.int n1[i], .int (if n2[i] > n1[i] then n2[i] else n1[i])])) := kB.trans (Kp.new np)
        have hx' := kp Z _ (by simp) hx
        refine ⟨_, hx', by rw [List.length_map]; exact Nat.lt_of_le_of_lt (show ps.length ≤ 12 by omega) (by decide), (DB.new np).up niZ, (kA.trans (kp.mono (by simp))).mut nZ, ps ++ [p], ?_, ?_, ?_⟩
        · rw [upd_same, List.map_append]; rfl
        · rw [List.length_append, lx]; rfl
        · refine PairsAt.up (PairsAt.push (pa.kp kp NT.nil) ?_) hx'
          rw [upd_same, lx]
          have w1 : ((flOf n1 n2 i).1 : Int) = n1[i] := by unfold flOf; dsimp only; rw [q1]; omega
          have w2 : ((flOf n1 n2 i).2 : Int) = if n2[i] > n1[i] then n2[i] else n1[i] := by unfold flOf; dsimp only; rw [q1, q2]; split <;> omega
          rw [w1, w2]
      · obtain ⟨DA, kA, ps, hx, lx, pa⟩ := hp
        refine ⟨Z, _, rfl, .inl ⟨lOf hx, fun l nl => ?_⟩⟩
        exact q l ps _ _ upd_same lx (pa.kp (M := []) (Kp.new nl) NT.nil) (flOf_step lt1 lt2 bb1 bb2 s1 s2) (DA.new nl) ((k5.trans kA).trans (Kp.new nl))
end
end K16

namespace K16
open PySem PySem.Spec PyProof.Rows L2 GenW BT
def St (d c : Addr) (H : Hp) (many wide : Nat) (R : Addr) (rows : Rows) (H' : Hp) : Prop := H R = none ∧ LAt [d, c] H' R rows ∧ rows.length = many ∧ (∀ r ∈ rows, r.length = wide) ∧ Bend rows ∧ Dk d c H' ∧ Kp [d, c] H H'
theorem St.kp {d c : Addr} {H H' H2 : Hp} {many wide : Nat} {R : Addr} {rows : Rows} (h : St d c H many wide R rows H') (D : Dk d c H2) (k : Kp [d, c] H' H2) : St d c H many wide R rows H2 := by
  obtain ⟨a, b, e, f, g, _, i⟩ := h
  exact ⟨a, b.kp k, e, f, g, D, i.trans k⟩
section
variable {P : Program} {w : World} {K : PySem.W.Frag} {mg : Str → Option Value} {base : Heap}
def spTable : Sp := fun vs H Q _ => ∃ (d c : Addr), vs = [.ref d] ∧ Dk d c H ∧ ∀ p rows wide H', TabAt H' p rows → 0 < rows.length → rows.length ≤ 13 → (∀ r ∈ rows, r.length = wide) → wide ≤ 12 → Bend rows → Dk d c H' → Kp [d, c] H H' → Q (.ref p) H'
theorem ok_law_table (T : Txt K mg) {k : Nat} : FnOk P w K mg base CX0 (k + 4) T.law_table.f T.law_table.fd p_law_table spTable := by
  have G_law_draw : FnOk P w K mg base CX0 1 T.law_draw.f T.law_draw.fd p_law_draw spDraw := ok_draw T
  have G_law_size : FnOk P w K mg base CX0 2 T.law_size.f T.law_size.fd p_law_size spSize := ok_size T
  have G_law_bending : FnOk P w K mg base CX0 3 T.law_bending.f T.law_bending.fd p_law_bending spBending := ok_bending T
  have G_law_stretches : FnOk P w K mg base CX0 2 T.law_stretches.f T.law_stretches.fd p_law_stretches spStr := ok_stretches T
  have G_law_bends : FnOk P w K mg base CX0 1 T.law_bends.f T.law_bends.fd p_law_bends (spBends K) := ok_bends T
  refine T.law_table.F.ok sc_law_table (fun vs H Q E h => ?_) (fun cdv A outer s H vs Q E hr h => ?_)
  · obtain ⟨d, c, rfl, _⟩ := h
    rfl
  · obtain ⟨d, c, rfl, hD, q⟩ := h
    replace hr := hr.mono (show 3 ≤ k + 3 by omega)
    have nd := sc_law_table.nd
    refine ⟨_, (pss_cons (ps_set (i := 1) nd rfl (Or.inl rfl) (pe_call G_law_draw (hr.mono (by decide)) (by rfl) T.law_draw.g T.law_draw.F.kp T.law_draw.b .nil pass0 (pa_cons (pv 0) (pa_cons pe_int pa_nil))))
        (pss_cons (ps_set (i := 2) nd rfl (Or.inl rfl) (pe_cmpR op_eq (pe_call G_law_draw (hr.mono (by decide)) (by rfl) T.law_draw.g T.law_draw.F.kp T.law_draw.b .nil pass0 (pa_cons (pv 0) (pa_cons pe_int pa_nil))) pe_int (nomark _)))
        (pss_cons (ps_set (i := 3) nd rfl (Or.inl rfl) (pe_call G_law_size (hr.mono (by decide)) (by rfl) T.law_size.g T.law_size.F.kp T.law_size.b .nil pass0 (pa_cons (pv 0) pa_nil)))
        (pss_cons (ps_set (i := 4) nd rfl (Or.inl rfl) (pe_call G_law_size (hr.mono (by decide)) (by rfl) T.law_size.g T.law_size.F.kp T.law_size.b .nil pass0 (pa_cons (pv 0) pa_nil)))
        (pss_cons (ps_set (i := 5) nd rfl (Or.inr rfl) (pe_call G_law_bending (hr.mono (by decide)) (by rfl) T.law_bending.g T.law_bending.F.kp T.law_bending.b .nil pass0 (pa_cons (pv 0) (pa_cons (pv 3) (pa_cons (pv 4) pa_nil)))))
        (Evl.pss_cut (ps_if (pt_val (pv 2)) (pss_one (ps_set (i := 5) nd rfl (Or.inr rfl) (pe_lc (own := [("_law_i", 6)]) rfl nd (pi_range1 (by rfl) T.b_range (pa_cons (pv 3) pa_nil)) (blkOk_by (own := [("_law_i", 6)]) (N := n_law_table) (sc := defScope s_law_table) (by decide +kernel)) (fun _ _ _ _ _ => (pg_name (i := 6) nd rfl (Or.inl rfl))) (fun _ _ _ _ _ => pts_nil) (fun _ _ _ _ _ => (pe_ix (ixLK K) (pv 5) (pe_op op_fdiv (pv 6) pe_int) (fun _ _ => rfl)))))) pss_nil)
        (Evl.pss_cut (ps_if (pt_cmpR op_eq (pv 1) pe_int (nomark _)) (pss_cons (ps_set (i := 7) nd rfl (Or.inl rfl) (pe_call G_law_stretches (hr.mono (by decide)) (by rfl) T.law_stretches.g T.law_stretches.F.kp T.law_stretches.b .nil pass0 (pa_cons (pv 0) (pa_cons (pv 3) (pa_cons (pv 4) pa_nil)))))
        (pss_one (ps_for PassesOwn.never rfl (pi_range1 (by rfl) T.b_range (pa_cons (pv 3) pa_nil)) (pg_name (i := 6) nd rfl (Or.inl rfl)) (pss_cons (ps_asg (pe_ix (ixTK K) (pv 7) (pv 6) (fun _ _ => rfl)) (pg_tup (by rfl) (pgs_cons (pg_name (i := 8) nd rfl (Or.inl rfl)) (pgs_cons (pg_name (i := 9) nd rfl (Or.inl rfl)) pgs_nil))))
        (pss_cons (ps_set (i := 10) nd rfl (Or.inl rfl) (pe_slice (slLK K) (pe_ix (ixLK K) (pv 5) (pv 6) (fun _ _ => rfl)) (po_some (pv 8)) (po_some (pe_op op_add (pv 9) pe_int))))
        (pss_one (ps_asg (pe_op op_cat (pe_op op_cat (pe_op op_rep (pe_lst (pa_cons pe_non pa_nil)) (pv 8)) (pv 10)) (pe_op op_rep (pe_lst (pa_cons pe_non pa_nil)) (pe_op op_sub (pe_op op_sub (pv 4) pe_int) (pv 9)))) (pg_sub (pv 5) (pv 6) set_list)))))))) pss_nil)
        (pss_cons (ps_for PassesOwn.never rfl (pi_range1 (by rfl) T.b_range (pa_cons (pe_op op_mul pe_int (pe_callTy call_int1 (by rfl) T.b_int (by decide +kernel) (pa_cons (pe_cmpR op_eq (pv 1) pe_int (nomark _)) pa_nil))) pa_nil)) (pg_name (i := 11) nd rfl (Or.inl rfl)) (pss_cons (ps_setLc (i := 12) (own := [("_law_row", 13)]) rfl nd rfl rfl (sw_true rfl rfl rfl (by decide +kernel)) (piLK K (pv 5)) (blkOk_by (own := [("_law_row", 13)]) (N := n_law_table) (sc := defScope s_law_table) (by decide +kernel)) (fun _ _ _ _ _ => (pg_name (i := 13) nd rfl (Or.inl rfl))) (fun _ _ _ _ _ => pts_nil) (fun _ _ _ _ _ => (pe_callTy (lisK K) (by rfl) T.b_list (by decide +kernel) (pa_cons (pv 13) pa_nil))))
        (pss_cons (ps_asg pe_non (pg_sub (pe_ix (ixLK K) (pv 12) (pe_call G_law_draw (hr.mono (by decide)) (by rfl) T.law_draw.g T.law_draw.F.kp T.law_draw.b .nil pass0 (pa_cons (pv 0) (pa_cons (pv 3) pa_nil))) (fun _ _ => rfl)) (pe_ix (ixLK K) (pe_lst (pa_cons (pe_call G_law_draw (hr.mono (by decide)) (by rfl) T.law_draw.g T.law_draw.F.kp T.law_draw.b .nil pass0 (pa_cons (pv 0) (pa_cons (pv 4) pa_nil))) (pa_cons pe_int (pa_cons (pe_op op_sub (pv 4) pe_int) pa_nil)))) (pe_call G_law_draw (hr.mono (by decide)) (by rfl) T.law_draw.g T.law_draw.F.kp T.law_draw.b .nil pass0 (pa_cons (pv 0) (pa_cons pe_int pa_nil))) (fun _ _ => rfl)) set_list))
        (pss_one (ps_if (pt_val (pe_call G_law_bends (hr.mono (by decide)) (by rfl) T.law_bends.g T.law_bends.F.kp T.law_bends.b .nil pass0 (pa_cons (pv 12) pa_nil))) (pss_one (ps_set (i := 5) nd rfl (Or.inr rfl) (pv 12))) pss_nil)))))
        (Evl.pss_cut (ps_if (PW.pt (pw_and (pt_cmpR op_eq (pe_call G_law_draw (hr.mono (by decide)) (by rfl) T.law_draw.g T.law_draw.F.kp T.law_draw.b .nil pass0 (pa_cons (pv 0) (pa_cons pe_int pa_nil))) pe_int (nomark _)) (pw_and1 (pt_cmpR op_lt (pv 3) pe_int (nomark _))))) (pss_one (ps_expr (pe_bm PySem.F.plainAttrs_list PySem.F.slot_list_insert PySem.F.type_list_insert mt_insert (pv 5) (pa_cons (pe_call G_law_draw (hr.mono (by decide)) (by rfl) T.law_draw.g T.law_draw.F.kp T.law_draw.b .nil pass0 (pa_cons (pv 0) (pa_cons (pe_op op_add (pv 3) pe_int) pa_nil))) (pa_cons (pe_op op_rep (pe_lst (pa_cons pe_non pa_nil)) (pv 4)) pa_nil))))) pss_nil)
        (pss_one (ps_ret (pe_callTy (tupK K) (by rfl) T.b_tuple (by decide +kernel) (pa_cons (pe_lc (own := [("_law_row", 13)]) rfl nd (piLK K (pv 5)) (blkOk_by (own := [("_law_row", 13)]) (N := n_law_table) (sc := defScope s_law_table) (by decide +kernel)) (fun _ _ _ _ _ => (pg_name (i := 13) nd rfl (Or.inl rfl))) (fun _ _ _ _ _ => pts_nil) (fun _ _ _ _ _ => (pe_callTy (tupK K) (by rfl) T.b_tuple (by decide +kernel) (pa_cons (pv 13) pa_nil)))) pa_nil))))))))))))), ?_⟩
    refine ⟨.ref d, rfl, d, c, 3, rfl, hD, by decide, by decide, fun sort H1 _ _ D1 k1 => ?_⟩
    refine ⟨.ref d, rfl, d, c, 2, rfl, D1, by decide, by decide, fun al H2 _ _ D2 k2 => ?_⟩
    refine ⟨rfl, .ref d, rfl, d, c, rfl, D2, fun m H3 m0 m1 D3 k3 => ?_⟩
    refine ⟨.ref d, rfl, d, c, rfl, D3, fun ww H4 w0 w1 D4 k4 => ?_⟩
    obtain ⟨many, rfl⟩ : ∃ n : Nat, m = n := ⟨m.toNat, by omega⟩
    obtain ⟨wide, rfl⟩ : ∃ n : Nat, ww = n := ⟨ww.toNat, by omega⟩
    refine ⟨.ref d, rfl, .int many, rfl, .int wide, rfl, d, c, many, wide, rfl, D4, by omega, by omega, by omega, by omega, fun R rows0 H5 nR LA lr fw nb D5 k5 => ?_⟩
    generalize decide (V.int al = V.int 1) = alike
    have kk4 : Kp [d, c] H H4 := ((k1.trans k2).trans k3).trans k4
    have niR := LA.1
    refine ⟨fun σ' H' => ∃ (R : Addr) (rows : Rows), σ' = [some (.ref d), some (.int sort), some (.bl alike), some (.int many), some (.int wide), some (.ref R), none, none, none, none, none, none, none, none] ∧ St d c H many wide R rows H', ?_, ?_⟩
    · refine ⟨_, rfl, _, rfl, ite2 (fun _ => ?_) fun _ => ?_⟩
      · obtain ⟨_, ps0, R5, lp0, hpb0, hps0⟩ := LA
        refine ⟨.int many, rfl, many, rfl, by omega, by omega, fun D nD => ?_⟩
        have niD := D5.ni nD
        rw [show ((many : Nat) : Int).toNat = many from Int.toNat_natCast _]
        refine lc_it walk_range (fun i H' => Dk d c H' ∧ Kp [d, c] H5 H' ∧ ∃ out : Rows, LAt [d, c] H' D out ∧ out.length = i ∧ ∀ (m : Nat) r, out[m]? = some r → rows0[m / 2]? = some r) ⟨D5.new nD, Kp.new nD, [], ⟨niD, [], upd_same, rfl, by simp, by simp⟩, rfl, by simp⟩ (fun _ _ _ _ => trivial) (fun i x Ha Hb hi hp hy => ?_) fun H6 hp => ?_
        · obtain ⟨DA, kA, out, LO, lo, pk⟩ := hp
          obtain ⟨rfl, rfl⟩ := hy
          have hb : ps0[i / 2]? = some ps0[i / 2] := List.getElem?_eq_getElem (by omega)
          have hrw : rows0[i / 2]? = some rows0[i / 2] := List.getElem?_eq_getElem (by omega)
          have hbn : ps0[i / 2] ∉ [d, c] := hpb0 _ (List.getElem_mem _)
          have hb5 := hps0 _ _ _ hb hrw
          have RA := kA R _ niR R5
          refine ⟨rfl, .ref R, rfl, .int (0 + (i : Nat)), rfl, _, 2, rfl, rfl, ⟨by decide, by decide⟩, R, _, _, .ref ps0[i / 2], rfl, rfl, lOf RA, at_i (n := i / 2) (by omega) (by rw [List.getElem?_map, hb]; rfl), ?_⟩
          obtain ⟨_, ps, hx, lx, hpb, hps⟩ := LO
          refine ⟨_, hx, by rw [List.length_map]; exact Nat.lt_of_le_of_lt (show ps.length ≤ 12 by omega) (by decide), DA.up niD, kA.mut nD, out ++ [rows0[i / 2]], LAt.push niD hx lx hpb hps hbn (kA _ _ hbn hb5) (ne_of_none hb5 nD), ?_, ?_⟩
          · rw [List.length_append, lo]; rfl
          · intro m r e
            by_cases hm : m < out.length
            · rw [List.getElem?_append_left hm] at e
              exact pk m r e
            · have hml : m < (out ++ [rows0[i / 2]]).length := (List.getElem?_eq_some_iff.mp e).1
              rw [List.length_append] at hml
              have em : m = i := by simp at hml; omega
              subst em
              rw [List.getElem?_append_right (by omega), show m - out.length = 0 by omega] at e
              cases e
              exact hrw
        · obtain ⟨DA, kA, out, LO, lo, pk⟩ := hp
          refine ⟨D, out, rfl, (kk4.trans k5).backM niD nD, LO, lo, fun r hrm => ?_, bend_pick fw nb (fun i => i / 2) (fun i j h => by omega) pk, DA, (kk4.trans k5).trans kA⟩
          obtain ⟨i, hi, rfl⟩ := List.getElem_of_mem hrm
          exact (full_at fw (pk i _ (List.getElem?_eq_getElem hi))).1
      · exact ⟨R, rows0, rfl, kk4.backM niR nR, LA, lr, fun r hrm => (fw r hrm).1, bend_pick fw nb (fun i => i) (fun i j h => Nat.le_of_lt h) (fun i r e => e), D5, kk4.trans k5⟩
    · intro σ' H6 hM
      obtain ⟨R, rows, rfl, S6⟩ := hM
      refine ⟨fun σ' H' => ∃ (y6 y7 y8 y9 y10 : Option V) (rows : Rows), σ' = [some (.ref d), some (.int sort), some (.bl alike), some (.int many), some (.int wide), some (.ref R), y6, y7, y8, y9, y10, none, none, none] ∧ St d c H many wide R rows H', ?_, ?_⟩
      · refine ⟨.int sort, rfl, rfl, _, rfl, ite2 (fun _ => ?_) fun _ => ?_⟩
        · obtain ⟨nR, LA, lr, hw, bd, D6, k6⟩ := S6
          have niR := LA.1
          refine ⟨.ref d, rfl, .int many, rfl, .int wide, rfl, d, c, many, wide, rfl, D6, by omega, by omega, by omega, by omega, fun S sp fl H7 hS lS pS st D7 k7 => ?_⟩
          have LA7 := LA.kp k7
          have kk7 := k6.trans k7
          refine ⟨.int many, rfl, many, rfl, by omega, by omega, ?_⟩
          rw [show ((many : Nat) : Int).toNat = many from Int.toNat_natCast _]
          refine for_it walk_range (fun i σ H' => ∃ (y6 y8 y9 y10 : Option V) (out : Rows), σ = [some (.ref d), some (.int sort), some (.bl alike), some (.int many), some (.int wide), some (.ref R), y6, some (.ref S), y8, y9, y10, none, none, none] ∧ Dk d c H' ∧ Kp [d, c] H H' ∧ H' S = some (.tup (sp.map V.ref)) ∧ PairsAt H' sp fl ∧ LAt [d, c] H' R out ∧ out.length = many ∧
              (∀ (m : Nat) r, m < i → rows[m]? = some r → out[m]? = some (cutRow (fl m).1 (fl m).2 wide r)) ∧ ∀ (m : Nat), i ≤ m → out[m]? = rows[m]?)
            ⟨none, none, none, none, rows, rfl, D7, kk7, hS, pS, LA7, lr, fun m r h => absurd h (Nat.not_lt_zero _), fun m _ => rfl⟩ (fun _ _ _ _ _ => trivial) (fun i x σ Ha Hb hi hp hy => ?_) fun σ Ha hp => ?_
          · obtain ⟨y6, y8, y9, y10, out, rfl, DA, kA, SA, PA, LO, lo, cutd, rest⟩ := hp
            obtain ⟨rfl, rfl⟩ := hy
            have hsb : sp[i]? = some sp[i] := List.getElem?_eq_getElem (by omega)
            have hpair := PA i _ hsb
            obtain ⟨st1, st2⟩ := st.1 i hi
            have hrw : rows[i]? = some rows[i] := List.getElem?_eq_getElem (by omega)
            have hrl : rows[i].length = wide := hw _ (List.getElem_mem _)
            obtain ⟨_, ps, hx, lx, hpb, hps⟩ := LO
            have hb : ps[i]? = some ps[i] := List.getElem?_eq_getElem (by omega)
            have hor : out[i]? = some rows[i] := by rw [rest i (Nat.le_refl _)]; exact hrw
            have hbrow := hps i _ _ hb hor
            generalize hrr : rows[i] = row at hrw hrl hor hbrow
            generalize hff : (fl i).1 = f at hpair st1
            generalize hll : (fl i).2 = l at hpair st1 st2
            refine ⟨.ref S, rfl, .int (0 + (i : Nat)), rfl, S, _, _, .ref sp[i], rfl, rfl, tOf SA, at_i (n := i) (by omega) (by rw [List.getElem?_map, hsb]; rfl), sp[i], _, rfl, tOf hpair, rfl, .int f, [.int l], rfl, .int l, [], rfl, rfl, ?_⟩
            refine ⟨.ref R, rfl, .int (0 + (i : Nat)), rfl, R, _, _, .ref ps[i], rfl, rfl, lOf hx, at_i (n := i) (by omega) (by rw [List.getElem?_map, hb]; rfl), .int f, rfl, f, rfl, .int l, rfl, _, 1, rfl, rfl, _, rfl, ps[i], _, rfl, lOf hbrow, fun pk npk => ?_⟩
            rw [cut_mid hrl st1 st2]
            have kK : Kp [] Hb (upd Hb pk (.lst (((row.drop f).take (l + 1 - f)).map ov))) := Kp.new npk
            have eK : upd Hb pk (.lst (((row.drop f).take (l + 1 - f)).map ov)) pk = some (.lst (((row.drop f).take (l + 1 - f)).map ov)) := upd_same
            generalize upd Hb pk (.lst (((row.drop f).take (l + 1 - f)).map ov)) = HK at kK eK ⊢
            have htl : ((row.drop f).take (l + 1 - f)).length ≤ 12 := by rw [List.length_take, List.length_drop]; omega
            refine ⟨(show (1 : Nat) ≤ sizeLine by decide), fun p1 n1 => ⟨.int f, rfl, p1, f, _, rfl, rfl, upd_same, by omega, by omega, ?_, fun p2 n2 => ?_⟩⟩
            · exact Nat.le_trans (show 1 * ((f : Nat) : Int).toNat ≤ 12 by omega) (by decide)
            have e2 : (List.replicate ((f : Nat) : Int).toNat [V.non]).flatten = (List.replicate f (none : Option Int)).map ov := by rw [Int.toNat_natCast]; exact rep_non f
            rw [e2]
            have kA2 : Kp [] HK (upd (upd HK p1 (.lst [.non])) p2 (.lst ((List.replicate f (none : Option Int)).map ov))) := (Kp.new n1).trans (Kp.new n2)
            have eA2 : upd (upd HK p1 (.lst [.non])) p2 (.lst ((List.replicate f (none : Option Int)).map ov)) p2 = some (.lst ((List.replicate f (none : Option Int)).map ov)) := upd_same
            generalize upd (upd HK p1 (.lst [.non])) p2 (.lst ((List.replicate f (none : Option Int)).map ov)) = HA2 at kA2 eA2 ⊢
            refine ⟨.ref pk, rfl, p2, pk, _, _, rfl, rfl, eA2, kA2 pk _ (by simp) eK, ?_, fun p3 n3 => ?_⟩
            · rw [List.length_map, List.length_map, List.length_replicate]
              exact Nat.le_trans (show f + ((row.drop f).take (l + 1 - f)).length ≤ 24 by omega) (by decide)
            have kA3 : Kp [] HA2 (upd HA2 p3 (.lst ((List.replicate f (none : Option Int)).map ov ++ ((row.drop f).take (l + 1 - f)).map ov))) := Kp.new n3
            have eA3 : upd HA2 p3 (.lst ((List.replicate f (none : Option Int)).map ov ++ ((row.drop f).take (l + 1 - f)).map ov)) p3 = some (.lst ((List.replicate f (none : Option Int)).map ov ++ ((row.drop f).take (l + 1 - f)).map ov)) := upd_same
            generalize upd HA2 p3 (.lst ((List.replicate f (none : Option Int)).map ov ++ ((row.drop f).take (l + 1 - f)).map ov)) = HA3 at kA3 eA3 ⊢
            refine ⟨(show (1 : Nat) ≤ sizeLine by decide), fun p4 n4 => ⟨.int wide, rfl, _, 1, rfl, rfl, .int l, rfl, _, l, rfl, rfl, p4, _, _, rfl, rfl, upd_same, by omega, by omega, ?_, fun p5 n5 => ?_⟩⟩
            · exact Nat.le_trans (show 1 * ((wide : Nat) - 1 - (l : Nat) : Int).toNat ≤ 12 by omega) (by decide)
            have e5 : (List.replicate ((wide : Nat) - 1 - (l : Nat) : Int).toNat [V.non]).flatten = (List.replicate (wide - 1 - l) (none : Option Int)).map ov := by rw [show ((wide : Nat) - 1 - (l : Nat) : Int).toNat = wide - 1 - l by omega]; exact rep_non _
            rw [e5]
            have kA5 : Kp [] HA3 (upd (upd HA3 p4 (.lst [.non])) p5 (.lst ((List.replicate (wide - 1 - l) (none : Option Int)).map ov))) := (Kp.new n4).trans (Kp.new n5)
            have eA5 : upd (upd HA3 p4 (.lst [.non])) p5 (.lst ((List.replicate (wide - 1 - l) (none : Option Int)).map ov)) p5 = some (.lst ((List.replicate (wide - 1 - l) (none : Option Int)).map ov)) := upd_same
            generalize upd (upd HA3 p4 (.lst [.non])) p5 (.lst ((List.replicate (wide - 1 - l) (none : Option Int)).map ov)) = HA5 at kA5 eA5 ⊢
            refine ⟨p3, p5, _, _, rfl, rfl, kA5 p3 _ (by simp) eA3, eA5, ?_, fun p6 n6 => ?_⟩
            · rw [List.length_append, List.length_map, List.length_map, List.length_map, List.length_replicate, List.length_replicate]
              exact Nat.le_trans (show f + ((row.drop f).take (l + 1 - f)).length + (wide - 1 - l) ≤ 36 by omega) (by decide)
            have e6 : (List.replicate f (none : Option Int)).map ov ++ ((row.drop f).take (l + 1 - f)).map ov ++ (List.replicate (wide - 1 - l) (none : Option Int)).map ov = (cutRow f l wide row).map ov := by
              unfold cutRow
              rw [List.map_append, List.map_append]
            rw [e6]
            have k56 : Kp [] HA5 (upd HA5 p6 (.lst ((cutRow f l wide row).map ov))) := Kp.new n6
            have kA6 : Kp [] Hb (upd HA5 p6 (.lst ((cutRow f l wide row).map ov))) := (((kK.trans kA2).trans kA3).trans kA5).trans k56
            have eA6 : upd HA5 p6 (.lst ((cutRow f l wide row).map ov)) p6 = some (.lst ((cutRow f l wide row).map ov)) := upd_same
            have DA5 : Dk d c HA5 := DA.kp (M := []) (((kK.trans kA2).trans kA3).trans kA5) (by simp) (by simp)
            have ni6 := DA5.ni n6
            have DA6 := DA5.new (o := .lst ((cutRow f l wide row).map ov)) n6
            generalize upd HA5 p6 (.lst ((cutRow f l wide row).map ov)) = HA6 at k56 kA6 eA6 DA6 ⊢
            have hx6 := kA6 R _ (by simp) hx
            refine ⟨.ref R, rfl, .int (0 + (i : Nat)), rfl, R, _, _, i, rfl, rfl, hx6, by rw [Int.zero_add]; exact ixN_nat (by rw [List.length_map]; omega), ?_⟩
            have SA6 := kA6 S _ (by simp) SA
            refine ⟨_, _, _, _, out.set i (cutRow f l wide row), rfl, DA6.up niR, (kA.trans (kA6.mono (by simp))).mut nR, ?_, (PA.kp kA6 NT.nil).up hx6, LAt.set (by omega) niR hx6 lx hpb (fun m b r a1 a2 => kA6 b _ (by simp) (hps m b r a1 a2)) ni6 eA6, by rw [List.length_set]; exact lo, ?_, ?_⟩
            · rw [upd_ne (fun z => by rw [z, hx6] at SA6; cases SA6)]
              exact SA6
            · intro m r hm e
              by_cases c1 : i = m
              · subst c1
                rw [List.getElem?_set_self (by omega), hff, hll]
                rw [hrw] at e
                cases e
                rfl
              · rw [List.getElem?_set_ne c1]
                exact cutd m r (by omega) e
            · intro m hm
              rw [List.getElem?_set_ne (by omega)]
              exact rest m (by omega)
          · obtain ⟨y6, y8, y9, y10, out, rfl, DA, kA, SA, PA, LO, lo, cutd, rest⟩ := hp
            obtain ⟨bo, wo⟩ := cut_bend bd lr hw lo st.1 st.2 cutd
            exact ⟨_, _, _, _, _, out, rfl, nR, LO, lo, wo, bo, DA, kA⟩
        · exact ⟨_, _, _, _, _, rows, rfl, S6⟩
      · intro σ' H7 hM
        obtain ⟨y6, y7, y8, y9, y10, rows, rfl, S7⟩ := hM
        obtain ⟨n, hn, hn2⟩ : ∃ n : Nat, (20 * (if decide (V.int sort = V.int 2) = true then 1 else 0) : Int) = n ∧ n ≤ 20 := by
          cases decide (V.int sort = V.int 2)
          · exact ⟨0, rfl, by decide⟩
          · exact ⟨20, rfl, by decide⟩
        refine ⟨.int sort, rfl, rfl, .inr ⟨_, rfl, 20, _, rfl, rfl, cmulL (by decide) (by decide), n, by dsimp only; rw [hn], by omega, by omega, ?_⟩⟩
        rw [show ((n : Nat) : Int).toNat = n from Int.toNat_natCast _]
        refine for_it walk_range (fun i σ H' => ∃ (y6 y7 y8 y9 y10 y11 y12 y13 : Option V) (R : Addr) (rows : Rows), σ = [some (.ref d), some (.int sort), some (.bl alike), some (.int many), some (.int wide), some (.ref R), y6, y7, y8, y9, y10, y11, y12, y13] ∧ St d c H many wide R rows H')
          ⟨_, _, _, _, _, _, _, _, R, rows, rfl, S7⟩ (fun _ _ _ _ _ => trivial) (fun i x σ Ha Hb hi hp hy => ?_) fun σ Ha hp => ?_
        · obtain ⟨y6, y7, y8, y9, y10, y11, y12, y13, R, rows, rfl, S8⟩ := hp
          obtain ⟨rfl, rfl⟩ := hy
          obtain ⟨nR, LA, lr, hw, bd, D8, k8⟩ := id S8
          obtain ⟨niR, ps, hx, lx, hpb, hps⟩ := LA
          refine ⟨.ref R, rfl, R, rfl, ⟨_, lOf hx⟩, fun F nF => ?_⟩
          have niF := D8.ni nF
          refine lc_it (walk_list (xs := ps.map V.ref)) (fun i H' => Dk d c H' ∧ Kp [d, c] Hb H' ∧ ∃ qs : List Addr, H' F = some (.lst (qs.map V.ref)) ∧ qs.length = i ∧ qs.Nodup ∧ (∀ b ∈ qs, Hb b = none) ∧ ∀ (m : Nat) b row, qs[m]? = some b → rows[m]? = some row → H' b = some (.lst (row.map ov)))
            ⟨D8.new nF, Kp.new nF, [], upd_same, rfl, List.nodup_nil, by simp, by simp⟩ (fun i H' _ hp => lOf (hp.2.1 R _ niR hx)) (fun i x Ha Hc hi hp hy => ?_) fun H9 hp => ?_
          · obtain ⟨DA, kA, qs, hq, lq, ndq, nq, hqs⟩ := hp
            obtain ⟨rfl, hxx⟩ := hy
            rw [List.length_map] at hi
            rw [List.getElem?_map, List.getElem?_eq_getElem hi] at hxx
            have ex : x = .ref ps[i] := (Option.some.inj hxx).symm
            subst ex
            have hb : ps[i]? = some ps[i] := List.getElem?_eq_getElem hi
            have hrw : rows[i]? = some rows[i] := List.getElem?_eq_getElem (by omega)
            have hbn : ps[i] ∉ [d, c] := hpb _ (List.getElem_mem _)
            refine ⟨rfl, .ref ps[i], rfl, ps[i], _, rfl, .inl (lOf (kA _ _ hbn (hps i _ _ hb hrw))), fun l nl => ?_⟩
            have kl : Kp [d, c] Hc (upd Hc l (.lst (rows[i].map ov))) := Kp.new nl
            have kl0 : Kp [] Hc (upd Hc l (.lst (rows[i].map ov))) := Kp.new nl
            have hq' := kl0 F _ (by simp) hq
            have el : upd Hc l (.lst (rows[i].map ov)) l = some (.lst (rows[i].map ov)) := upd_same
            have Dl := DA.new (o := .lst (rows[i].map ov)) nl
            generalize upd Hc l (.lst (rows[i].map ov)) = Hl at kl kl0 hq' el Dl ⊢
            have neF : l ≠ F := fun z => by rw [z, hq] at nl; cases nl
            have niL : l ∉ [d, c] := DA.ni nl
            refine ⟨_, hq', by rw [List.length_map]; exact Nat.lt_of_le_of_lt (show qs.length ≤ 12 by omega) (by decide), Dl.up niF, (kA.trans kl).mut nF, qs ++ [l], ?_, ?_, ?_, ?_, ?_⟩
            · rw [upd_same, List.map_append]; rfl
            · rw [List.length_append, lq]; rfl
            · refine List.nodup_append.mpr ⟨ndq, by simp, fun a ha b hb2 => ?_⟩
              rw [List.mem_singleton.mp hb2]
              intro z
              obtain ⟨m, hm, rfl⟩ := List.getElem_of_mem ha
              have z2 := hqs m _ _ (List.getElem?_eq_getElem hm) (List.getElem?_eq_getElem (show m < List.length rows by omega))
              rw [z, nl] at z2
              cases z2
            · intro b hb2
              rcases List.mem_append.mp hb2 with e | e
              · exact nq b e
              · rw [List.mem_singleton.mp e]; exact kA.backM niL nl
            · intro m b row e1 e2
              by_cases hm : m < qs.length
              · rw [List.getElem?_append_left hm] at e1
                have z := kl0 b _ (by simp) (hqs m b row e1 e2)
                rw [upd_ne (LAt.nr hq' (by omega) z)]
                exact z
              · have hml : m < (qs ++ [l]).length := (List.getElem?_eq_some_iff.mp e1).1
                rw [List.length_append] at hml
                have em : m = qs.length := by simp at hml; omega
                subst em
                rw [List.getElem?_append_right (Nat.le_refl _), Nat.sub_self] at e1
                cases e1
                rw [lq, hrw] at e2
                cases e2
                rw [upd_ne neF]
                exact el
          · obtain ⟨D9, k9, qs, hq, lq, ndq, nq, hqs⟩ := hp
            rw [List.length_map] at lq
            have nqi : ∀ b ∈ qs, b ∉ [d, c] := fun b hb => D8.ni (nq b hb)
            refine ⟨.ref F, rfl, .ref d, rfl, .int many, rfl, d, c, many, rfl, D9, by omega, by omega, fun zx HX x0 x1 DX kX => ?_⟩
            obtain ⟨xx, rfl⟩ : ∃ n : Nat, zx = n := ⟨zx.toNat, by omega⟩
            have hb : qs[xx]? = some qs[xx] := List.getElem?_eq_getElem (by omega)
            have hrw : rows[xx]? = some rows[xx] := List.getElem?_eq_getElem (by omega)
            have hrl : rows[xx].length = wide := hw _ (List.getElem_mem _)
            have hqX := kX F _ niF hq
            have hqsX : ∀ (m : Nat) b row, qs[m]? = some b → rows[m]? = some row → HX b = some (.lst (row.map ov)) := fun m b row e1 e2 => kX b _ (nqi b (List.mem_of_getElem? e1)) (hqs m b row e1 e2)
            refine ⟨F, _, _, .ref qs[xx], rfl, rfl, lOf hqX, at_i (n := xx) rfl (by rw [List.getElem?_map, hb]; rfl), .ref d, rfl, .int wide, rfl, d, c, wide, rfl, DX, by omega, by omega, fun zy HY y0 y1 DY kY => ?_⟩
            refine ⟨.int wide, rfl, _, 1, rfl, rfl, (show (3 : Nat) ≤ sizeLine by decide), fun p np => ?_⟩
            have nip := DY.ni np
            refine ⟨.ref d, rfl, d, c, 3, rfl, DY.new np, by decide, by decide, fun zz HZ z0 z1 DZ kZ => ?_⟩
            have ep := kZ p _ nip upd_same
            have kYZ : Kp [d, c] HX HZ := (kY.trans (Kp.new np)).trans kZ
            obtain ⟨col, hcol, hcw⟩ : ∃ col : Nat, atI [V.int zy, V.int 0, V.int ((wide : Nat) - 1)] zz = some (.int col) ∧ col < wide := by
              rcases (show zz = 0 ∨ zz = 1 ∨ zz = 2 by omega) with rfl | rfl | rfl
              · exact ⟨zy.toNat, by rw [show ((zy.toNat : Nat) : Int) = zy by omega]; exact atI_nat (j := 0) rfl, by omega⟩
              · exact ⟨0, atI_nat (j := 1) rfl, by omega⟩
              · exact ⟨wide - 1, by rw [show ((wide - 1 : Nat) : Int) = (wide : Nat) - 1 by omega]; exact atI_nat (j := 2) rfl, by omega⟩
            have hqZ := kYZ F _ niF hqX
            have hqsZ : ∀ (m : Nat) b row, qs[m]? = some b → rows[m]? = some row → HZ b = some (.lst (row.map ov)) := fun m b row e1 e2 => kYZ b _ (nqi b (List.mem_of_getElem? e1)) (hqsX m b row e1 e2)
            have hbZ := hqsZ xx _ _ hb hrw
            have nb : qs[xx] ∉ [d, c] := nqi _ (List.getElem_mem _)
            have neb : F ≠ qs[xx] := (LAt.nr hqZ (by omega) hbZ).symm
            have nbH : Hb qs[xx] = none := nq _ (List.getElem_mem _)
            refine ⟨p, _, _, .int col, rfl, rfl, lOf ep, hcol, qs[xx], _, _, col, rfl, rfl, hbZ, ixN_nat (by rw [List.length_map]; omega), ?_⟩
            have es : (rows[xx].map ov).set col .non = (rows[xx].set col none).map ov := by rw [List.map_set]; rfl
            rw [es]
            have kkZ : Kp [d, c] Hb (upd HZ qs[xx] (.lst ((rows[xx].set col none).map ov))) := ((k9.trans kX).trans kYZ).mut nbH
            have DZ' := DZ.up (o := .lst ((rows[xx].set col none).map ov)) nb
            have LF : LAt [d, c] (upd HZ qs[xx] (.lst ((rows[xx].set col none).map ov))) F (rows.set xx (rows[xx].set col none)) := by
              refine ⟨niF, qs, ?_, ?_, nqi, fun m b r e1 e2 => ?_⟩
              · rw [upd_ne neb]; exact hqZ
              · rw [List.length_set]; omega
              · by_cases c1 : xx = m
                · subst c1
                  rw [List.getElem?_set_self (by omega)] at e2
                  rw [hb] at e1
                  cases e1
                  cases e2
                  exact upd_same
                · rw [List.getElem?_set_ne c1] at e2
                  rw [upd_ne (fun z => c1 ((List.getElem?_inj (show xx < qs.length by omega) ndq).mp (by rw [hb, e1, z])))]
                  exact hqsZ m b r e1 e2
            generalize upd HZ qs[xx] (.lst ((rows[xx].set col none).map ov)) = HS at kkZ DZ' LF ⊢
            have hw' : ∀ r ∈ rows.set xx (rows[xx].set col none), r.length = wide := fun r hrm => by
              rcases List.mem_or_eq_of_mem_set hrm with z | z
              · exact hw r z
              · rw [z, List.length_set]; exact hrl
            have lr' : (rows.set xx (rows[xx].set col none)).length = many := by rw [List.length_set]; exact lr
            refine ⟨.ref F, rfl, F, _, wide, rfl, LF.rows, by omega, by omega, hw', by omega, fun b hbb => ⟨b, rfl, ite2 (fun e => ?_) fun e => ?_⟩⟩
            · exact ⟨.ref F, rfl, _, _, _, _, _, _, _, _, F, _, rfl, k8.backM niF nF, LF, lr', hw', hbb.mp e, DZ', k8.trans kkZ⟩
            · exact ⟨_, _, _, _, _, _, _, _, R, rows, rfl, S8.kp DZ' kkZ⟩
        · obtain ⟨y6, y7, y8, y9, y10, y11, y12, y13, R, rows, rfl, S8⟩ := hp
          obtain ⟨nR, LA, lr, hw, bd, D8, k8⟩ := S8
          have niR := LA.1
          refine ⟨fun σ' H' => ∃ (rows : Rows), σ' = [some (.ref d), some (.int sort), some (.bl alike), some (.int many), some (.int wide), some (.ref R), y6, y7, y8, y9, y10, y11, y12, y13] ∧ LAt [d, c] H' R rows ∧ 0 < rows.length ∧ rows.length ≤ 13 ∧ (∀ r ∈ rows, r.length = wide) ∧ Bend rows ∧ Dk d c H' ∧ Kp [d, c] H H', ?_, ?_⟩
          · refine ⟨.ref d, rfl, d, c, 4, rfl, D8, by decide, by decide, fun z4 H9 _ _ D9 k9 => ⟨rfl, _, rfl, ite2 (fun _ => ?_) fun _ => ?_⟩⟩
            · refine ⟨.int many, rfl, _, _, rfl, rfl, _, rfl, ite2 (fun e => ?_) fun e => ?_⟩
              · obtain ⟨_, ps, hx, lx, hpb, hps⟩ := LA.kp k9
                refine ⟨.ref R, rfl, .inl ⟨rfl, _, lOf hx⟩, .ref d, rfl, .int many, rfl, _, 1, rfl, rfl, d, c, _, rfl, D9, by omega, by omega, fun zi HX x0 x1 DX kX => ?_⟩
                obtain ⟨xi, rfl⟩ : ∃ n : Nat, zi = n := ⟨zi.toNat, by omega⟩
                refine ⟨(show (1 : Nat) ≤ sizeLine by decide), fun p1 n1 => ⟨.int wide, rfl, p1, wide, _, rfl, rfl, upd_same, by omega, by omega, ?_, fun p2 n2 => ?_⟩⟩
                · exact Nat.le_trans (show 1 * ((wide : Nat) : Int).toNat ≤ 12 by omega) (by decide)
                have e2 : (List.replicate ((wide : Nat) : Int).toNat [V.non]).flatten = (List.replicate wide (none : Option Int)).map ov := by rw [Int.toNat_natCast]; exact rep_non wide
                rw [e2]
                have k1' : Kp [d, c] HX (upd HX p1 (.lst [.non])) := Kp.new n1
                have k2' : Kp [d, c] HX (upd (upd HX p1 (.lst [.non])) p2 (.lst ((List.replicate wide (none : Option Int)).map ov))) := k1'.trans (Kp.new n2)
                have ep2 : upd (upd HX p1 (.lst [.non])) p2 (.lst ((List.replicate wide (none : Option Int)).map ov)) p2 = some (.lst ((List.replicate wide (none : Option Int)).map ov)) := upd_same
                have ni2 := (DX.new (o := .lst [.non]) n1).ni n2
                have D2' := (DX.new (o := .lst [.non]) n1).new (o := .lst ((List.replicate wide (none : Option Int)).map ov)) n2
                generalize upd (upd HX p1 (.lst [.non])) p2 (.lst ((List.replicate wide (none : Option Int)).map ov)) = HI at k2' ep2 D2' ⊢
                have kI : Kp [d, c] H9 HI := kX.trans k2'
                have hxI := kI R _ niR hx
                refine ⟨R, _, xi, .ref p2, rfl, rfl, hxI, by rw [List.length_map]; exact Nat.lt_of_le_of_lt (show ps.length ≤ 12 by omega) (by decide), by omega, by omega, ?_⟩
                rw [show ((xi : Nat) : Int).toNat = xi from Int.toNat_natCast _]
                refine ⟨_, rfl, LAt.ins (by omega) (by omega) niR hxI lx hpb (fun m b r e1 e2 => kI b _ (hpb b (List.mem_of_getElem? e1)) (hps m b r e1 e2)) ni2 ep2, ?_, ?_, ?_, bend_insert bd xi wide (by omega), D2'.up niR, ((k8.trans k9).trans kI).mut nR⟩
                · rw [List.length_append, List.length_cons]; omega
                · rw [List.length_append, List.length_cons, List.length_take, List.length_drop]; omega
                · intro r hrm
                  rcases List.mem_append.mp hrm with z | z
                  · exact hw r (List.mem_of_mem_take z)
                  · rcases List.mem_cons.mp z with z | z
                    · rw [z, List.length_replicate]
                    · exact hw r (List.mem_of_mem_drop z)
              · exact ⟨rows, rfl, LA.kp k9, by omega, by omega, hw, bd, D9, k8.trans k9⟩
            · exact iteF ⟨rows, rfl, LA.kp k9, by omega, by omega, hw, bd, D9, k8.trans k9⟩
          · intro σ' H9 hM
            obtain ⟨rows, rfl, LA, l0, l1, hw, bd, D9, k9⟩ := hM
            obtain ⟨niR, ps, hx, lx, hpb, hps⟩ := LA
            refine ⟨.ref R, rfl, R, rfl, ⟨_, lOf hx⟩, fun D nD => ?_⟩
            have niD := D9.ni nD
            refine lc_it (walk_list (xs := ps.map V.ref)) (fun i H' => Dk d c H' ∧ Kp [d, c] H9 H' ∧ ∃ qs : List Addr, H' D = some (.lst (qs.map V.ref)) ∧ qs.length = i ∧ ∀ (m : Nat) b row, qs[m]? = some b → rows[m]? = some row → H' b = some (.tup (row.map ov)))
              ⟨D9.new nD, Kp.new nD, [], upd_same, rfl, by simp⟩ (fun i H' _ hp => lOf (hp.2.1 R _ niR hx)) (fun i x Ha Hc hi hp hy => ?_) fun HF hp => ?_
            · obtain ⟨DA, kA, qs, hq, lq, hqs⟩ := hp
              obtain ⟨rfl, hxx⟩ := hy
              rw [List.length_map] at hi
              rw [List.getElem?_map, List.getElem?_eq_getElem hi] at hxx
              have ex : x = .ref ps[i] := (Option.some.inj hxx).symm
              subst ex
              have hb : ps[i]? = some ps[i] := List.getElem?_eq_getElem hi
              have hrw : rows[i]? = some rows[i] := List.getElem?_eq_getElem (by omega)
              have hbn : ps[i] ∉ [d, c] := hpb _ (List.getElem_mem _)
              refine ⟨rfl, .ref ps[i], rfl, ps[i], _, rfl, .inl ⟨lOf (kA _ _ hbn (hps i _ _ hb hrw)), fun l nl => ?_⟩⟩
              have kl : Kp [d, c] Hc (upd Hc l (.tup (rows[i].map ov))) := Kp.new nl
              have kl0 : Kp [] Hc (upd Hc l (.tup (rows[i].map ov))) := Kp.new nl
              have hq' := kl0 D _ (by simp) hq
              have el : upd Hc l (.tup (rows[i].map ov)) l = some (.tup (rows[i].map ov)) := upd_same
              have Dl := DA.new (o := .tup (rows[i].map ov)) nl
              generalize upd Hc l (.tup (rows[i].map ov)) = Hl at kl kl0 hq' el Dl ⊢
              refine ⟨_, hq', by rw [List.length_map]; exact Nat.lt_of_le_of_lt (show qs.length ≤ 13 by omega) (by decide), Dl.up niD, (kA.trans kl).mut nD, qs ++ [l], ?_, ?_, ?_⟩
              · rw [upd_same, List.map_append]; rfl
              · rw [List.length_append, lq]; rfl
              · intro m b row e1 e2
                by_cases hm : m < qs.length
                · rw [List.getElem?_append_left hm] at e1
                  have z := kl0 b _ (by simp) (hqs m b row e1 e2)
                  rw [upd_ne (fun zz => by rw [zz, hq'] at z; cases z)]
                  exact z
                · have hml : m < (qs ++ [l]).length := (List.getElem?_eq_some_iff.mp e1).1
                  rw [List.length_append] at hml
                  have em : m = qs.length := by simp at hml; omega
                  subst em
                  rw [List.getElem?_append_right (Nat.le_refl _), Nat.sub_self] at e1
                  cases e1
                  rw [lq, hrw] at e2
                  cases e2
                  rw [upd_ne (fun zz => by rw [zz, hq'] at el; cases el)]
                  exact el
            · obtain ⟨DA, kA, qs, hq, lq, hqs⟩ := hp
              rw [List.length_map] at lq
              refine ⟨D, _, rfl, .inl ⟨lOf hq, fun l nl => ?_⟩⟩
              exact q l rows wide _ ⟨qs, upd_same, by omega, fun m b row e1 e2 => (Kp.new (M := []) nl) b _ (by simp) (hqs m b row e1 e2)⟩ l0 l1 hw (by omega) bd (DA.new nl) ((k9.trans kA).trans (Kp.new nl))
end
end K16

namespace K16
open PySem PySem.Spec PyProof.Rows L2 GenW BT
theorem eqvAll_ints : ∀ ns : List Int, PyData.eqvAll (ns.map PyData.int) (ns.map PyData.int) = true
  | [] => rfl
  | n :: r => by
    rw [List.map_cons, PyData.eqvAll, eqvAll_ints r]
    simp [PyData.eqv]
theorem eqv_ints (ns : List Int) : PyData.eqv (.list (ns.map PyData.int)) (.list (ns.map PyData.int)) = true := by
  rw [PyData.eqv]
  exact eqvAll_ints ns
theorem sorted_uniq : ∀ {a b : List Int}, a.Perm b → a.Pairwise (· ≤ ·) → b.Pairwise (· ≤ ·) → a = b := fun h h1 h2 => h.eq_of_pairwise (fun a b _ _ => Int.le_antisymm) h1 h2
theorem both {row : List (Option Int)} {v v' : V} (l1 : LeU false row row.length v) (l2 : LeU true row row.length v') : (v = .non ∧ v' = .non) ∨ ∃ a b : Nat, v = .int a ∧ v' = .int b ∧ a ≤ b := by
  have h := none_both l1 l2
  rcases id l1 with ⟨rfl, _⟩ | ⟨a, rfl, _⟩
  · exact .inl ⟨rfl, h.mp rfl⟩
  · rcases id l2 with ⟨rfl, _⟩ | ⟨b, rfl, _⟩
    · cases h.mpr rfl
    · exact .inr ⟨a, b, rfl, rfl, first_last l1 l2⟩
section
variable {P : Program} {w : World} {K : PySem.W.Frag} {mg : Str → Option Value} {base : Heap}
def spLaw (T : Txt K mg) : Sp := fun vs H Q _ => ∃ (a : Addr) (ns : List Int), vs = [.ref a] ∧ SqL K H a (ns.map V.int) ∧ ns.length ≤ 63 ∧ TabG H T.P_least_places ∧ ∀ H', Q (.bl true) H'
theorem law_start (T : Txt K mg) (H : Hp) (a : Addr) (ns : List Int) (hl : ns.length ≤ 63) (_ : ∀ z ∈ ns, Builtin.Int.intBits z ≤ 1048576) (hH : ∀ p ∈ [(T.c_least_places, T.P_least_places)], H p.2 = some (.tbl #[])) (hS : SqL K H a (ns.map V.int)) :
    spLaw T [.ref a] H (fun v _ => v = .bl true) fun _ _ _ => False := ⟨a, ns, rfl, hS, hl, tabG0 (hH (T.c_least_places, T.P_least_places) (by simp)), fun _ => rfl⟩
theorem ok_law (T : Txt K mg) (TB : TabB base mg T.c_least_places T.P_least_places) : FnOk P w K mg base CX0 12 T.law.f T.law.fd p_law (spLaw T) := by
  have G_law_deck : FnOk P w K mg base CX0 1 T.law_deck.f T.law_deck.fd p_law_deck (spDeck K) := ok_law_deck T
  have G_law_table : FnOk P w K mg base CX0 4 T.law_table.f T.law_table.fd p_law_table spTable := ok_law_table T
  have G_law_bends : FnOk P w K mg base CX0 1 T.law_bends.f T.law_bends.fd p_law_bends (spBends K) := ok_bends T
  have G_least_places : FnOk P w K mg base CX0 8 T.least_places.f T.least_places.fd p_least_places (spLPs T.P_least_places) := ok_least_places T TB
  refine T.law.F.ok sc_law (fun vs H Q E h => ?_) (fun cdv A outer s H vs Q E hr h => ?_)
  · obtain ⟨a, ns, rfl, _⟩ := h
    rfl
  · obtain ⟨a, ns, rfl, hS, hl, g1, q⟩ := h
    have nd := sc_law.nd
    refine ⟨_, (pss_cons (ps_set (i := 1) nd rfl (Or.inl rfl) (pe_call G_law_deck (hr.mono (by decide)) (by rfl) T.law_deck.g T.law_deck.F.kp T.law_deck.b .nil pass0 (pa_cons (pv 0) pa_nil)))
        (pss_cons (ps_for PassesOwn.never rfl (pi_range1 (by rfl) T.b_range (pa_cons pe_int pa_nil)) (pg_name (i := 2) nd rfl (Or.inl rfl)) (pss_cons (ps_set (i := 3) nd rfl (Or.inl rfl) (pe_call G_law_table (hr.mono (by decide)) (by rfl) T.law_table.g T.law_table.F.kp T.law_table.b .nil pass0 (pa_cons (pv 1) pa_nil)))
        (pss_cons (ps_if (pt_not (pt_val (pe_call G_law_bends (hr.mono (by decide)) (by rfl) T.law_bends.g T.law_bends.F.kp T.law_bends.b .nil pass0 (pa_cons (pv 3) pa_nil)))) (pss_one (ps_ret pe_bl)) pss_nil)
        (pss_cons (ps_set (i := 4) nd rfl (Or.inl rfl) (pe_call G_least_places (hr.mono (by decide)) (by rfl) T.least_places.g T.least_places.F.kp T.least_places.b .nil pass0 (pa_cons (pv 3) (pa_cons pe_str pa_nil))))
        (pss_cons (ps_set (i := 5) nd rfl (Or.inl rfl) (pe_call G_least_places (hr.mono (by decide)) (by rfl) T.least_places.g T.least_places.F.kp T.least_places.b .nil pass0 (pa_cons (pv 3) (pa_cons pe_str pa_nil))))
        (pss_cons (ps_if (pt_cmpR (neDK K hr.units) (pe_lc (own := [("_law_one", 8), ("_law_other", 9)]) rfl nd (pzTK K (by rfl) T.b_zip (pa_cons (pv 4) (pa_cons (pv 5) pa_nil))) (blkOk_by (own := [("_law_one", 8), ("_law_other", 9)]) (N := n_law) (sc := defScope s_law) (by decide +kernel)) (fun _ _ _ _ _ => (pgTK K (n := 2) (by rfl) (pgs_cons (pg_name (i := 8) nd rfl (Or.inl rfl)) (pgs_cons (pg_name (i := 9) nd rfl (Or.inl rfl)) pgs_nil)))) (fun _ _ _ _ _ => (pts_one (pt_cmpR op_ne (pe_cmpR op_isN (pv 8) pe_non (nomark _)) (pe_cmpR op_isN (pv 9) pe_non (nomark _)) (nomark _)))) (fun _ _ _ _ _ => pe_int)) (pe_lst pa_nil) (nomark _)) (pss_one (ps_ret pe_bl)) pss_nil)
        (pss_cons (ps_if (pt_cmpR (neDK K hr.units) (pe_lc (own := [("_law_one", 8), ("_law_other", 9)]) rfl nd (pzTK K (by rfl) T.b_zip (pa_cons (pv 4) (pa_cons (pv 5) pa_nil))) (blkOk_by (own := [("_law_one", 8), ("_law_other", 9)]) (N := n_law) (sc := defScope s_law) (by decide +kernel)) (fun _ _ _ _ _ => (pgTK K (n := 2) (by rfl) (pgs_cons (pg_name (i := 8) nd rfl (Or.inl rfl)) (pgs_cons (pg_name (i := 9) nd rfl (Or.inl rfl)) pgs_nil)))) (fun _ _ _ _ _ => (pts_one (PW.pt (pw_and (pt_cmpR op_notN (pv 8) pe_non (nomark _)) (pw_and1 (pt_cmpR op_gt (pv 8) (pv 9) (nomark _))))))) (fun _ _ _ _ _ => pe_int)) (pe_lst pa_nil) (nomark _)) (pss_one (ps_ret pe_bl)) pss_nil)
        (pss_one (ps_for PassesOwn.never rfl (piLK K (pe_lst (pa_cons (pv 4) (pa_cons (pv 5) pa_nil)))) (pg_name (i := 6) nd rfl (Or.inl rfl)) (pss_cons (ps_setLc (i := 7) (own := [("_law_place", 10)]) rfl nd rfl rfl (sw_true rfl rfl rfl (by decide +kernel)) (piTK K (pv 6)) (blkOk_by (own := [("_law_place", 10)]) (N := n_law) (sc := defScope s_law) (by decide +kernel)) (fun _ _ _ _ _ => (pg_name (i := 10) nd rfl (Or.inl rfl))) (fun _ _ _ _ _ => (pts_one (pt_cmpR op_notN (pv 10) pe_non (nomark _)))) (fun _ _ _ _ _ => (pv 10)))
        (pss_one (ps_if (pt_cmpR (neDK K hr.units) (pv 7) (pe_callB (sorK K) (by rfl) T.b_sorted (by decide +kernel) (pa_cons (pv 7) pa_nil)) (nomark _)) (pss_one (ps_ret pe_bl)) pss_nil))))))))))))
        (pss_one (ps_ret pe_bl)))), ?_⟩
    refine ⟨.ref a, rfl, a, ns, rfl, hS, hl, fun d c H1 D1 k1 _ _ => ?_⟩
    have g11 := TabG.kp g1 k1 (by simp)
    refine ⟨3, rfl, by decide, by decide, ?_⟩
    refine for_it walk_range (fun i σ H' => ∃ (y2 y3 y4 y5 y6 y7 y8 y9 y10 : Option V), σ = [some (.ref a), some (.ref d), y2, y3, y4, y5, y6, y7, y8, y9, y10] ∧ Dk d c H' ∧ TabG H' T.P_least_places) ⟨_, _, _, _, _, _, _, _, _, rfl, D1, g11⟩ (fun _ _ _ _ _ => trivial) (fun i x σ Ha Hb hi hp hy => ?_) fun σ Ha hp => ?_
    · obtain ⟨y2, y3, y4, y5, y6, y7, y8, y9, y10, rfl, DA, gA⟩ := hp
      obtain ⟨rfl, rfl⟩ := hy
      refine ⟨.ref d, rfl, d, c, rfl, DA, fun p rows wide H2 ht l0 l1 hw w1 bd D2 k2 => ?_⟩
      have g2 := TabG.kp gA k2 (TabG.nd gA DA)
      refine ⟨.ref p, rfl, p, rows, wide, rfl, ht.rows, l0, l1, hw, w1, fun b hb => ⟨b, rfl, ?_⟩⟩
      have eb : b = true := hb.mpr bd
      subst eb
      refine iteF ?_
      -- the least places, by either side
      refine ⟨.ref p, rfl, p, rows, false, rfl, ht, by omega, g2, fun p1 us1 H3 e1 le1 hu1 k3 g3 => ?_⟩
      have nP2 := NT.tab g2
      have nd2 := TabG.nd g2 D2
      have D3 : Dk d c H3 := D2.kp k3 (fun z => nd2 (by rw [← List.mem_singleton.mp z]; exact List.mem_cons_self)) (fun z => nd2 (by rw [← List.mem_singleton.mp z]; exact List.mem_cons_of_mem _ (List.mem_singleton.mpr rfl)))
      have ht3 := ht.kp k3 nP2
      have nP3 := NT.tab g3
      have nd3 := TabG.nd g3 D3
      refine ⟨.ref p, rfl, p, rows, true, rfl, ht3, by omega, g3, fun p2 us2 H4 e2 le2 hu2 k4 g4 => ?_⟩
      have D4 : Dk d c H4 := D3.kp k4 (fun z => nd3 (by rw [← List.mem_singleton.mp z]; exact List.mem_cons_self)) (fun z => nd3 (by rw [← List.mem_singleton.mp z]; exact List.mem_cons_of_mem _ (List.mem_singleton.mpr rfl)))
      have e14 := k4 p1 _ (nP3.ni e1) e1
      have pair : ∀ (m : Nat) v1 v2, us1[m]? = some v1 → us2[m]? = some v2 → (v1 = .non ∧ v2 = .non) ∨ ∃ a b : Nat, v1 = .int a ∧ v2 = .int b ∧ a ≤ b := fun m v1 v2 h1 h2 => by
        have hm := (List.getElem?_eq_some_iff.mp h1).1
        have hrw : rows[m]? = some rows[m] := List.getElem?_eq_getElem (by omega)
        exact both (hu1 m _ _ hrw h1) (hu2 m _ _ hrw h2)
      -- the first look
      refine ⟨.ref p1, rfl, .ref p2, rfl, p1, p2, us1, us2, rfl, .inr ⟨tOf e14, tOf e2, fun Z nZ => ?_⟩⟩
      refine lc_it (walk_zipT (xs := us1) (ys := us2) (n := rows.length) (by rw [le1, le2, Nat.min_self])) (fun i H' => Kp [] H4 H' ∧ H' Z = some (.lst [])) ⟨Kp.new nZ, upd_same⟩ (fun i H' _ hp => ⟨tOf (hp.1 p1 _ (by simp) e14), tOf (hp.1 p2 _ (by simp) e2)⟩) (fun i x Ha Hc hi hp hy => ?_) fun H5 hp => ?_
      · obtain ⟨kA, hZ⟩ := hp
        obtain ⟨T1, v1, v2, rfl, nT, rfl, h1, h2⟩ := hy
        have kB : Kp [] Ha (upd Ha T1 (.tup [v1, v2])) := Kp.new nT
        have eT : upd Ha T1 (.tup [v1, v2]) T1 = some (.tup [v1, v2]) := upd_same
        generalize upd Ha T1 (.tup [v1, v2]) = HB at kB eT ⊢
        rcases pair i v1 v2 h1 h2 with ⟨rfl, rfl⟩ | ⟨x1, x2, rfl, rfl, hle⟩
        · refine ⟨T1, [.non, .non], rfl, tOf eT, rfl, .non, [.non], rfl, .non, [], rfl, rfl, rfl, .non, rfl, rfl, .non, rfl, rfl, rfl, _, rfl, iteF ⟨kA.trans kB, kB Z _ (by simp) hZ⟩⟩
        · refine ⟨T1, [.int x1, .int x2], rfl, tOf eT, rfl, .int x1, [.int x2], rfl, .int x2, [], rfl, rfl, rfl, .int x1, rfl, rfl, .int x2, rfl, rfl, rfl, _, rfl, iteF ⟨kA.trans kB, kB Z _ (by simp) hZ⟩⟩
      obtain ⟨k5, hZ5⟩ := hp
      refine ⟨Nat.zero_le _, fun q5 nq5 => ?_⟩
      have k5n : Kp [] H5 (upd H5 q5 (.lst [])) := Kp.new nq5
      have eq5 : upd H5 q5 (.lst []) q5 = some (.lst []) := upd_same
      generalize upd H5 q5 (.lst []) = H6 at k5n eq5 ⊢
      refine ⟨_, _, .lst (lOf (k5n Z _ (by simp) hZ5)) .nil, .lst (lOf eq5) .nil, rfl, rfl, _, rfl, iteF ?_⟩
      have k46 : Kp [] H4 H6 := k5.trans k5n
      have e16 := k46 p1 _ (by simp) e14
      have e26 := k46 p2 _ (by simp) e2
      -- the second look
      refine ⟨.ref p1, rfl, .ref p2, rfl, p1, p2, us1, us2, rfl, .inr ⟨tOf e16, tOf e26, fun Y nY => ?_⟩⟩
      refine lc_it (walk_zipT (xs := us1) (ys := us2) (n := rows.length) (by rw [le1, le2, Nat.min_self])) (fun i H' => Kp [] H6 H' ∧ H' Y = some (.lst [])) ⟨Kp.new nY, upd_same⟩ (fun i H' _ hp => ⟨tOf (hp.1 p1 _ (by simp) e16), tOf (hp.1 p2 _ (by simp) e26)⟩) (fun i x Ha Hc hi hp hy => ?_) fun H7 hp => ?_
      · obtain ⟨kA, hZ⟩ := hp
        obtain ⟨T1, v1, v2, rfl, nT, rfl, h1, h2⟩ := hy
        have kB : Kp [] Ha (upd Ha T1 (.tup [v1, v2])) := Kp.new nT
        have eT : upd Ha T1 (.tup [v1, v2]) T1 = some (.tup [v1, v2]) := upd_same
        generalize upd Ha T1 (.tup [v1, v2]) = HB at kB eT ⊢
        rcases pair i v1 v2 h1 h2 with ⟨rfl, rfl⟩ | ⟨x1, x2, rfl, rfl, hle⟩
        · refine ⟨T1, [.non, .non], rfl, tOf eT, rfl, .non, [.non], rfl, .non, [], rfl, rfl, rfl, .non, rfl, rfl, _, rfl, iteF (iteF ⟨kA.trans kB, kB Y _ (by simp) hZ⟩)⟩
        · refine ⟨T1, [.int x1, .int x2], rfl, tOf eT, rfl, .int x1, [.int x2], rfl, .int x2, [], rfl, rfl, rfl, .int x1, rfl, rfl, _, rfl, iteT ⟨.int x1, rfl, .int x2, rfl, _, _, rfl, rfl, _, rfl, ?_⟩⟩
          rw [decide_eq_false (show ¬ ((x2 : Int) < x1) by omega)]
          exact iteF ⟨kA.trans kB, kB Y _ (by simp) hZ⟩
      obtain ⟨k7, hY7⟩ := hp
      refine ⟨Nat.zero_le _, fun q7 nq7 => ?_⟩
      have k7n : Kp [] H7 (upd H7 q7 (.lst [])) := Kp.new nq7
      have eq7 : upd H7 q7 (.lst []) q7 = some (.lst []) := upd_same
      generalize upd H7 q7 (.lst []) = H8 at k7n eq7 ⊢
      refine ⟨_, _, .lst (lOf (k7n Y _ (by simp) hY7)) .nil, .lst (lOf eq7) .nil, rfl, rfl, _, rfl, iteF ?_⟩
      have k48 : Kp [] H4 H8 := (k46.trans k7).trans k7n
      have e18 := k48 p1 _ (by simp) e14
      have e28 := k48 p2 _ (by simp) e2
      -- none is less than one ahead
      refine ⟨.ref p1, rfl, .ref p2, rfl, (show (2 : Nat) ≤ sizeLine by decide), fun L nL => ?_⟩
      have k8n : Kp [] H8 (upd H8 L (.lst [.ref p1, .ref p2])) := Kp.new nL
      have eL : upd H8 L (.lst [.ref p1, .ref p2]) L = some (.lst [.ref p1, .ref p2]) := upd_same
      generalize upd H8 L (.lst [.ref p1, .ref p2]) = H9 at k8n eL ⊢
      have e19 := k8n p1 _ (by simp) e18
      have e29 := k8n p2 _ (by simp) e28
      have k49 : Kp [] H4 H9 := k48.trans k8n
      refine ⟨L, rfl, ⟨_, lOf eL⟩, ?_⟩
      refine for_it (walk_list (xs := [.ref p1, .ref p2])) (fun i σ H' => ∃ (y2 y3 y4 y5 y6 y7 y8 y9 y10 : Option V), σ = [some (.ref a), some (.ref d), y2, y3, y4, y5, y6, y7, y8, y9, y10] ∧ Kp [] H9 H') ⟨_, _, _, _, _, _, _, _, _, rfl, Kp.refl _⟩ (fun i σ H' _ hp => by obtain ⟨_, _, _, _, _, _, _, _, _, _, kk⟩ := hp; exact lOf (kk L _ (by simp) eL)) (fun i x σ Ha Hc hi hp hy => ?_) fun σ Hd hp => ?_
      · obtain ⟨y2, y3, y4, y5, y6, y7, y8, y9, y10, rfl, kA⟩ := hp
        obtain ⟨rfl, hxx⟩ := hy
        obtain ⟨A', us, last, rfl, eA, lA, hu⟩ : ∃ (A' : Addr) (us : List V) (last : Bool), x = .ref A' ∧ H9 A' = some (.tup us) ∧ us.length = rows.length ∧ ∀ (i : Nat) row v, rows[i]? = some row → us[i]? = some v → LeU last row row.length v := by
          rcases (show i = 0 ∨ i = 1 by have : i < 2 := hi; omega) with rfl | rfl
          · exact ⟨p1, us1, false, (Option.some.inj hxx).symm, e19, le1, hu1⟩
          · exact ⟨p2, us2, true, (Option.some.inj hxx).symm, e29, le2, hu2⟩
        have eA2 := kA A' _ (by simp) eA
        refine ⟨.ref A', rfl, A', rfl, ⟨_, tOf eA2⟩, fun D nD => ?_⟩
        refine lc_it (walk_tup (xs := us)) (fun i H' => Kp [] Hc H' ∧ ∃ ns : List Int, H' D = some (.lst (ns.map V.int)) ∧ ns.length ≤ i ∧ ns.Pairwise (· ≤ ·) ∧ ∀ n ∈ ns, ∃ m, m < i ∧ us[m]? = some (.int n)) ⟨Kp.new nD, [], upd_same, Nat.le_refl _, List.Pairwise.nil, by simp⟩ (fun i H' _ hp => tOf (hp.1 A' _ (by simp) eA2)) (fun i x Ha He hi hp hy => ?_) fun H10 hp => ?_
        · obtain ⟨kB, ns', hD, ln, pw, mem⟩ := hp
          obtain ⟨rfl, hv⟩ := hy
          have hrw : rows[i]? = some rows[i] := List.getElem?_eq_getElem (by omega)
          have lv := hu i _ _ hrw hv
          rcases id lv with ⟨rfl, _⟩ | ⟨k0, rfl, _⟩
          · exact ⟨rfl, .non, rfl, rfl, _, rfl, iteF ⟨kB, ns', hD, by omega, pw, fun n hn => by obtain ⟨m, hm, e⟩ := mem n hn; exact ⟨m, by omega, e⟩⟩⟩
          · refine ⟨rfl, .int k0, rfl, rfl, _, rfl, iteT ⟨.int k0, rfl, _, hD, by rw [List.length_map]; exact Nat.lt_of_le_of_lt (show ns'.length ≤ 13 by omega) (by decide), kB.mut nD, ns' ++ [(k0 : Int)], ?_, ?_, ?_, ?_⟩⟩
            · rw [upd_same, List.map_append]; rfl
            · rw [List.length_append]; exact Nat.succ_le_succ ln
            · refine List.pairwise_append.mpr ⟨pw, List.pairwise_singleton _ _, fun n hn z hz => ?_⟩
              rw [List.mem_singleton.mp hz]
              obtain ⟨m, hm, em⟩ := mem n hn
              have hrm : rows[m]? = some rows[m] := List.getElem?_eq_getElem (by omega)
              have lm := hu m _ _ hrm em
              rcases id lm with ⟨z1, _⟩ | ⟨k1, z1, _⟩
              · cases z1
              · have en : n = (k1 : Int) := V.int.inj z1
                subst en
                have := bend_step bd hm hrm hrw lm lv
                omega
            · intro n hn
              rcases List.mem_append.mp hn with e | e
              · obtain ⟨m, hm, e'⟩ := mem n e
                exact ⟨m, by omega, e'⟩
              · rw [List.mem_singleton.mp e]
                exact ⟨i, by omega, hv⟩
        · obtain ⟨kB, ns', hD, ln, pw, mem⟩ := hp
          refine ⟨.ref D, rfl, .ref D, rfl, D, ns', rfl, lOf hD, by omega, fun ns2 p10 pm pw2 np10 => ?_⟩
          have en : ns2 = ns' := sorted_uniq pm pw2 pw
          subst en
          have kN : Kp [] H10 (upd H10 p10 (.lst (ns2.map V.int))) := Kp.new np10
          refine ⟨_, _, .lst (lOf (kN D _ (by simp) hD)) (dpAll_ints ns2), .lst (lOf upd_same) (dpAll_ints ns2), shaped_ints ns2, shaped_ints ns2, _, rfl, ?_⟩
          rw [eqv_ints]
          exact iteF ⟨_, _, _, _, _, _, _, _, _, rfl, (kA.trans kB).trans kN⟩
      · obtain ⟨y2, y3, y4, y5, y6, y7, y8, y9, y10, rfl, kA⟩ := hp
        exact ⟨_, _, _, _, _, _, _, _, _, rfl, D4.kp (k49.trans kA) (by simp) (by simp), TabG.kp g4 (k49.trans kA) (by simp)⟩
    · exact q _
end
end K16

namespace K16
open PySem PySem.Spec PyProof.Rows L2 GenW BT
theorem all_mk {q : Program} {w : World} {K : PySem.W.Frag} {h : Heap} {mg : Str → Option Value} {fa : Addr} (X : K.In h) (G : h.Ns mainGlobals mg) (hfa : mg "law" = some (.ref fa))
    (tabs : ∀ (y : Str) (c P : Addr), ((recsOf q).find? fun e => e.name == y).isSome = true → PySem.W.tabIn K y = some (c, P) → PySem.W.CodeHd h c P ∧ h.get? P = some { cls := .none, data := .fields #[] })
    {f0 : Addr} {od0 an0 : Option Addr} {sl0 : Array (Option Value)} {oc0 kV0 dc0 pm0 cd0 ct0 : Value}
    {f1 : Addr} {od1 an1 : Option Addr} {sl1 : Array (Option Value)} {oc1 kV1 dc1 pm1 cd1 ct1 : Value}
    {f2 : Addr} {od2 an2 : Option Addr} {sl2 : Array (Option Value)} {oc2 kV2 dc2 pm2 cd2 ct2 : Value}
    {f3 : Addr} {od3 an3 : Option Addr} {sl3 : Array (Option Value)} {oc3 kV3 dc3 pm3 cd3 ct3 : Value}
    {f4 : Addr} {od4 an4 : Option Addr} {sl4 : Array (Option Value)} {oc4 kV4 dc4 pm4 cd4 ct4 : Value}
    {f5 : Addr} {od5 an5 : Option Addr} {sl5 : Array (Option Value)} {oc5 kV5 dc5 pm5 cd5 ct5 : Value}
    {f6 : Addr} {od6 an6 : Option Addr} {sl6 : Array (Option Value)} {oc6 kV6 dc6 pm6 cd6 ct6 : Value}
    {f7 : Addr} {od7 an7 : Option Addr} {sl7 : Array (Option Value)} {oc7 kV7 dc7 pm7 cd7 ct7 : Value}
    {f8 : Addr} {od8 an8 : Option Addr} {sl8 : Array (Option Value)} {oc8 kV8 dc8 pm8 cd8 ct8 : Value}
    {f9 : Addr} {od9 an9 : Option Addr} {sl9 : Array (Option Value)} {oc9 kV9 dc9 pm9 cd9 ct9 : Value}
    {f10 : Addr} {od10 an10 : Option Addr} {sl10 : Array (Option Value)} {oc10 kV10 dc10 pm10 cd10 ct10 : Value}
    {c_least_places P_least_places : Addr}
    (a0 : PySem.W.nsIn K mainGlobals "least_places" = some (some (.ref f0))) (l0 : K.lookup f0 = some ⟨oc0, od0, .func (PySem.W.fnOf "least_places" "least_places" (defArgs s_least_places) (defBody s_least_places) (defScope s_least_places) .none kV0 dc0 pm0 an0 cd0 ct0), sl0⟩) (c0 : PySem.W.codeIn K cd0 "least_places" = true) (k0 : PySem.W.keepIn K (.ref f0) = true)
    (a1 : PySem.W.nsIn K mainGlobals "least_place" = some (some (.ref f1))) (l1 : K.lookup f1 = some ⟨oc1, od1, .func (PySem.W.fnOf "least_place" "least_place" (defArgs s_least_place) (defBody s_least_place) (defScope s_least_place) .none kV1 dc1 pm1 an1 cd1 ct1), sl1⟩) (c1 : PySem.W.codeIn K cd1 "least_place" = true) (k1 : PySem.W.keepIn K (.ref f1) = true)
    (a2 : PySem.W.nsIn K mainGlobals "_law_deck" = some (some (.ref f2))) (l2 : K.lookup f2 = some ⟨oc2, od2, .func (PySem.W.fnOf "_law_deck" "_law_deck" (defArgs s_law_deck) (defBody s_law_deck) (defScope s_law_deck) .none kV2 dc2 pm2 an2 cd2 ct2), sl2⟩) (c2 : PySem.W.codeIn K cd2 "_law_deck" = true) (k2 : PySem.W.keepIn K (.ref f2) = true)
    (a3 : PySem.W.nsIn K mainGlobals "_law_draw" = some (some (.ref f3))) (l3 : K.lookup f3 = some ⟨oc3, od3, .func (PySem.W.fnOf "_law_draw" "_law_draw" (defArgs s_law_draw) (defBody s_law_draw) (defScope s_law_draw) .none kV3 dc3 pm3 an3 cd3 ct3), sl3⟩) (c3 : PySem.W.codeIn K cd3 "_law_draw" = true) (k3 : PySem.W.keepIn K (.ref f3) = true)
    (a4 : PySem.W.nsIn K mainGlobals "_law_size" = some (some (.ref f4))) (l4 : K.lookup f4 = some ⟨oc4, od4, .func (PySem.W.fnOf "_law_size" "_law_size" (defArgs s_law_size) (defBody s_law_size) (defScope s_law_size) .none kV4 dc4 pm4 an4 cd4 ct4), sl4⟩) (c4 : PySem.W.codeIn K cd4 "_law_size" = true) (k4 : PySem.W.keepIn K (.ref f4) = true)
    (a5 : PySem.W.nsIn K mainGlobals "_law_number" = some (some (.ref f5))) (l5 : K.lookup f5 = some ⟨oc5, od5, .func (PySem.W.fnOf "_law_number" "_law_number" (defArgs s_law_number) (defBody s_law_number) (defScope s_law_number) .none kV5 dc5 pm5 an5 cd5 ct5), sl5⟩) (c5 : PySem.W.codeIn K cd5 "_law_number" = true) (k5 : PySem.W.keepIn K (.ref f5) = true)
    (a6 : PySem.W.nsIn K mainGlobals "_law_bending" = some (some (.ref f6))) (l6 : K.lookup f6 = some ⟨oc6, od6, .func (PySem.W.fnOf "_law_bending" "_law_bending" (defArgs s_law_bending) (defBody s_law_bending) (defScope s_law_bending) .none kV6 dc6 pm6 an6 cd6 ct6), sl6⟩) (c6 : PySem.W.codeIn K cd6 "_law_bending" = true) (k6 : PySem.W.keepIn K (.ref f6) = true)
    (a7 : PySem.W.nsIn K mainGlobals "_law_stretches" = some (some (.ref f7))) (l7 : K.lookup f7 = some ⟨oc7, od7, .func (PySem.W.fnOf "_law_stretches" "_law_stretches" (defArgs s_law_stretches) (defBody s_law_stretches) (defScope s_law_stretches) .none kV7 dc7 pm7 an7 cd7 ct7), sl7⟩) (c7 : PySem.W.codeIn K cd7 "_law_stretches" = true) (k7 : PySem.W.keepIn K (.ref f7) = true)
    (a8 : PySem.W.nsIn K mainGlobals "_law_bends" = some (some (.ref f8))) (l8 : K.lookup f8 = some ⟨oc8, od8, .func (PySem.W.fnOf "_law_bends" "_law_bends" (defArgs s_law_bends) (defBody s_law_bends) (defScope s_law_bends) .none kV8 dc8 pm8 an8 cd8 ct8), sl8⟩) (c8 : PySem.W.codeIn K cd8 "_law_bends" = true) (k8 : PySem.W.keepIn K (.ref f8) = true)
    (a9 : PySem.W.nsIn K mainGlobals "_law_table" = some (some (.ref f9))) (l9 : K.lookup f9 = some ⟨oc9, od9, .func (PySem.W.fnOf "_law_table" "_law_table" (defArgs s_law_table) (defBody s_law_table) (defScope s_law_table) .none kV9 dc9 pm9 an9 cd9 ct9), sl9⟩) (c9 : PySem.W.codeIn K cd9 "_law_table" = true) (k9 : PySem.W.keepIn K (.ref f9) = true)
    (a10 : PySem.W.nsIn K mainGlobals "law" = some (some (.ref f10))) (l10 : K.lookup f10 = some ⟨oc10, od10, .func (PySem.W.fnOf "law" "law" (defArgs s_law) (defBody s_law) (defScope s_law) .none kV10 dc10 pm10 an10 cd10 ct10), sl10⟩) (c10 : PySem.W.codeIn K cd10 "law" = true) (k10 : PySem.W.keepIn K (.ref f10) = true)
    (e_least_places : cd0 = .ref c_least_places) (t_least_places : PySem.W.tabIn K "least_places" = some (c_least_places, P_least_places)) (n_least_places : K.lookup P_least_places = none)
    (z_tuple : PySem.W.nsIn K mainGlobals "tuple" = some none)
    (z_enumerate : PySem.W.nsIn K mainGlobals "enumerate" = some none)
    (z_len : PySem.W.nsIn K mainGlobals "len" = some none)
    (z_range : PySem.W.nsIn K mainGlobals "range" = some none)
    (z_list : PySem.W.nsIn K mainGlobals "list" = some none)
    (z_int : PySem.W.nsIn K mainGlobals "int" = some none)
    (z_zip : PySem.W.nsIn K mainGlobals "zip" = some none)
    (z_max : PySem.W.nsIn K mainGlobals "max" = some none)
    (z_sorted : PySem.W.nsIn K mainGlobals "sorted" = some none)
    (r_least_places : ((recsOf q).find? fun e => e.name == ("least_places" : Str)).isSome = true)
    : LamX.LawAtS PySem.Challenge.rw_bendtables_k16_least_places_step_right w K L2.CX0 12 63 "_law_script" mg fa h := by
  have e := hfa.symm.trans (PySem.W.mg_of X G a10)
  cases e
  let T : Txt K mg := { least_places := d1_mk X G a0 l0 c0 k0 fun _ _ _ _ _ _ us hl => match us, hl with | [_, _], _ => rfl, least_place := d1_mk X G a1 l1 c1 k1 fun _ _ _ _ _ _ us hl => match us, hl with | [_, _], _ => rfl, law_deck := d1_mk X G a2 l2 c2 k2 fun _ _ _ _ _ _ us hl => match us, hl with | [_], _ => rfl, law_draw := d1_mk X G a3 l3 c3 k3 fun _ _ _ _ _ _ us hl => match us, hl with | [_, _], _ => rfl, law_size := d1_mk X G a4 l4 c4 k4 fun _ _ _ _ _ _ us hl => match us, hl with | [_], _ => rfl, law_number := d1_mk X G a5 l5 c5 k5 fun _ _ _ _ _ _ us hl => match us, hl with | [_, _], _ => rfl, law_bending := d1_mk X G a6 l6 c6 k6 fun _ _ _ _ _ _ us hl => match us, hl with | [_, _, _], _ => rfl, law_stretches := d1_mk X G a7 l7 c7 k7 fun _ _ _ _ _ _ us hl => match us, hl with | [_, _, _], _ => rfl, law_bends := d1_mk X G a8 l8 c8 k8 fun _ _ _ _ _ _ us hl => match us, hl with | [_], _ => rfl, law_table := d1_mk X G a9 l9 c9 k9 fun _ _ _ _ _ _ us hl => match us, hl with | [_], _ => rfl, law := d1_mk X G a10 l10 c10 k10 fun _ _ _ _ _ _ us hl => match us, hl with | [_], _ => rfl, c_least_places := c_least_places, P_least_places := P_least_places, h_least_places := e_least_places, b_tuple := PySem.W.mg_none_of X G z_tuple, b_enumerate := PySem.W.mg_none_of X G z_enumerate, b_len := PySem.W.mg_none_of X G z_len, b_range := PySem.W.mg_none_of X G z_range, b_list := PySem.W.mg_none_of X G z_list, b_int := PySem.W.mg_none_of X G z_int, b_zip := PySem.W.mg_none_of X G z_zip, b_max := PySem.W.mg_none_of X G z_max, b_sorted := PySem.W.mg_none_of X G z_sorted }
  refine ⟨T.law.fd, [(c_least_places, P_least_places)], spLaw T, fun p hp => ?_, fun p hp => ?_, fun p hp => ?_, fun s u => .of_eq rfl, fun H a ns hl hb hH hS => ?_, fun base _ _ TB => ok_law T ?_⟩
  · rw [List.mem_singleton.mp hp]; exact (tabs _ _ _ r_least_places t_least_places).2
  · rw [List.mem_singleton.mp hp]; exact n_least_places
  · rw [List.mem_singleton.mp hp]; exact (tabs _ _ _ r_least_places t_least_places).1
  · exact law_start T H a ns hl hb hH hS
  · exact toB (TB (c_least_places, P_least_places) (by simp))
end K16
open PySem PySem.W PyProof.Rows
set_option maxHeartbeats 0 in
theorem PySem.Challenge.cw_bendtables_k16_least_places_step_right_holds : PySem.Challenge.rw_bendtables_k16_least_places_step_right.Holds := by
  w_on; o_law; k_head; (case hw => w_witness2)
  k_fill
  refine BT.walk_tabs (l := PySem.Challenge.rw_bendtables_k16_least_places_step_right) (n := 63) (k := 12) (x := "_law_script") (CX := fun _ => L2.CX0) rfl (by decide) rfl ⟨rfl, by decide, by decide⟩ (fun w h Y => PySem.W.kIn_of Y) ?F (fun _ _ _ _ _ h => h)
  case F =>
    intro w mg fa h Yh KX G hmg tabs
    refine' K16.all_mk KX G hmg tabs ?a0 ?l0 ?c0 ?k0 ?a1 ?l1 ?c1 ?k1 ?a2 ?l2 ?c2 ?k2 ?a3 ?l3 ?c3 ?k3 ?a4 ?l4 ?c4 ?k4 ?a5 ?l5 ?c5 ?k5 ?a6 ?l6 ?c6 ?k6 ?a7 ?l7 ?c7 ?k7 ?a8 ?l8 ?c8 ?k8 ?a9 ?l9 ?c9 ?k9 ?a10 ?l10 ?c10 ?k10 ?e_least_places ?t_least_places ?n_least_places ?z_tuple ?z_enumerate ?z_len ?z_range ?z_list ?z_int ?z_zip ?z_max ?z_sorted ?r_least_places
    (case a0 => k_is); (case l0 => k_is); (case c0 => k_is); (case k0 => k_is); (case a1 => k_is); (case l1 => k_is); (case c1 => k_is); (case k1 => k_is); (case a2 => k_is); (case l2 => k_is); (case c2 => k_is); (case k2 => k_is); (case a3 => k_is); (case l3 => k_is); (case c3 => k_is); (case k3 => k_is); (case a4 => k_is); (case l4 => k_is); (case c4 => k_is); (case k4 => k_is); (case a5 => k_is); (case l5 => k_is); (case c5 => k_is); (case k5 => k_is); (case a6 => k_is); (case l6 => k_is); (case c6 => k_is); (case k6 => k_is); (case a7 => k_is); (case l7 => k_is); (case c7 => k_is); (case k7 => k_is); (case a8 => k_is); (case l8 => k_is); (case c8 => k_is); (case k8 => k_is); (case a9 => k_is); (case l9 => k_is); (case c9 => k_is); (case k9 => k_is); (case a10 => k_is); (case l10 => k_is); (case c10 => k_is); (case k10 => k_is); (case e_least_places => first | rfl | k_is); (case t_least_places => first | rfl | k_is); (case n_least_places => first | rfl | k_is); (case z_tuple => k_is); (case z_enumerate => k_is); (case z_len => k_is); (case z_range => k_is); (case z_list => k_is); (case z_int => k_is); (case z_zip => k_is); (case z_max => k_is); (case z_sorted => k_is); (case r_least_places => first | rfl | decide +kernel)
