import PyProof.Rows.All
import Wide.All
import OpenK.AllK
import Wide.FinOn
import HandS.ForMost
import HandS.GenList
import HandS.AnyAll
import PyProof.TupleOfGen
import KE.GoesMore
import HandS.Zip
import HandS.Walk
import HandS.EndTab
import HandS.Style
import HandS.IsInst
import HandS.Evl
import PySem.Challenge.RW_bendtables_k15_least_places_of_any_table
set_option Elab.async false
set_option linter.all false
set_option maxRecDepth 100000
set_option maxHeartbeats 4000000
namespace BT
open PySem PySem.Spec PyProof.Rows L2 GenW

theorem over_lp {A : Around} {G : Expr} {el it0 tg : Expr} {fs : List Expr} {sc : Scope} {po : Pos} {i a : Value} {env : Env} (hG : G = .GeneratorExp el [⟨tg, it0, fs, 0⟩] sc po) :
    A.over (.compLoop G 0 i a env) [] = A.deeper env := by
  subst hG
  rfl
theorem over_st {A : Around} {G : Expr} {el it0 tg : Expr} {fs : List Expr} {sc : Scope} {po : Pos} {i a : Value} {env : Env} (hG : G = .GeneratorExp el [⟨tg, it0, fs, 0⟩] sc po) :
    A.over (.compStart G 0 i a env) [] = A.deeper env := by
  subst hG
  rfl

/-- the context of a generator expression's element -/
def gxc (X : Cx) (N : List Str) (cenv : Env) (A : Around) (sc : Shared) (H : Hp) (ex : List Addr) (pn : List (Addr × Obj)) : Cx where
  prog := X.prog
  w := X.w
  K := X.K
  mg := X.mg
  base := X.base
  A := A.deeper cenv
  N := N
  s_0 := sc
  H_0 := H
  env := cenv
  outer := X.stack
  stack := cenv :: X.stack
  ex := ex
  fn := fun x => cenv.scope.names.lookup x == some .cell
  calm := true
  pn := pn
  xe := fun _ _ => False

/-- names: js tells for each name of the element's frame the slot of the def around, or none -/
structure GxOk (XN : List Str) (xs : Scope) (N : List Str) (js : List (Option Nat)) (scope : Scope) : Prop where
  kind : scope.kind = .function
  co : scope.isCoroutine = false
  nodup : (scope.names.map (·.1)).Nodup
  dot : scope.names.lookup (".0" : Str) = some NameKind.local
  len : js.length = N.length
  cap : ∀ i j : Nat, js[i]? = some (some j) → ∃ x : Str, N[i]? = some x ∧ XN[j]? = some x ∧ scope.names.lookup x = some .free ∧ xs.names.lookup x = some .cell
  fre : ∀ y ∈ scope.names, y.2 = .free → xs.names.lookup y.1 = some .cell

def gxC (XN : List Str) (xs : Scope) (N : List Str) (js : List (Option Nat)) (scope : Scope) : Bool :=
  (scope.kind == .function) && !scope.isCoroutine && decide ((scope.names.map (·.1)).Nodup) && (scope.names.lookup (".0" : Str) == some NameKind.local) && (js.length == N.length) &&
  (List.range js.length).all (fun i => match js[i]? with
    | some (some j) => match N[i]? with
      | some x => (XN[j]? == some x) && (scope.names.lookup x == some .free) && (xs.names.lookup x == some .cell)
      | none => false
    | _ => true) &&
  scope.names.all (fun y => !(y.2 == .free) || (xs.names.lookup y.1 == some .cell))
theorem gxOk_by {XN : List Str} {xs : Scope} {N : List Str} {js : List (Option Nat)} {scope : Scope} (h : gxC XN xs N js scope = true) : GxOk XN xs N js scope := by
  unfold gxC at h
  simp only [Bool.and_eq_true, beq_iff_eq, List.all_eq_true, Bool.not_eq_true', List.mem_range, Bool.or_eq_true, decide_eq_true_eq] at h
  obtain ⟨⟨⟨⟨⟨⟨h1, h2⟩, h3⟩, h4⟩, h5⟩, h6⟩, h7⟩ := h
  refine ⟨h1, h2, h3, h4, h5, fun i j e => ?_, fun y hy e => ?_⟩
  · have q := h6 i (List.getElem?_eq_some_iff.mp e).1
    rw [e] at q
    cases hN : N[i]? with
    | none => simp [hN] at q
    | some x =>
      simp only [hN, Bool.and_eq_true, beq_iff_eq] at q
      exact ⟨x, rfl, q.1.1, q.1.2, q.2⟩
  · rcases h7 y hy with q | q
    · rw [e] at q
      exact absurd q (by decide)
    · exact q
/-- the slots at the frame's beginning -/
def capt (σ : L2.St) (js : List (Option Nat)) : L2.St := js.map fun o => o.bind fun j => (σ[j]?).join
def Le (σ σ' : L2.St) : Prop := σ'.length = σ.length ∧ ∀ (i : Nat) v, σ[i]? = some (some v) → σ'[i]? = some (some v)
theorem Le.refl (σ : L2.St) : Le σ σ := ⟨rfl, fun _ _ e => e⟩
theorem Le.trans {a b c : L2.St} (x : Le a b) (y : Le b c) : Le a c := ⟨y.1.trans x.1, fun i v e => y.2 i v (x.2 i v e)⟩
theorem Le.set {σ : L2.St} {i : Nat} {v : Option V} (h : σ[i]? = some none) : Le σ (σ.set i v) := by
  refine ⟨by simp, fun j w e => ?_⟩
  by_cases hj : i = j
  · subst hj
    rw [h] at e
    cases e
  · rw [List.getElem?_set_ne hj]
    exact e

/-- the consumer's own objects at B bear what came out -/
structure Cons (B : List Addr) (Cr : List V → Heap → Prop) : Prop where
  obj : ∀ ys h, Cr ys h → ∀ b ∈ B, ∃ o, h.get? b = some o ∧ ∀ v, o.data ≠ .cell v
  keep : ∀ ys h h', Cr ys h → (∀ b ∈ B, ∀ o, h.get? b = some o → h'.get? b = some o) → Cr ys h'
def pinsOf (B : List Addr) (h : Heap) : List (Addr × Obj) := B.filterMap fun b => (h.get? b).map fun o => (b, o)
theorem mem_pinsOf {B : List Addr} {h : Heap} {p : Addr × Obj} (hp : p ∈ pinsOf B h) : p.1 ∈ B ∧ h.get? p.1 = some p.2 := by
  obtain ⟨b, hb, e⟩ := List.mem_filterMap.mp hp
  cases q : h.get? b with
  | none => rw [q] at e; cases e
  | some o =>
    rw [q] at e
    cases e
    exact ⟨hb, q⟩
theorem pinsOf_mem {B : List Addr} {h : Heap} {b : Addr} {o : Obj} (hb : b ∈ B) (e : h.get? b = some o) : (b, o) ∈ pinsOf B h :=
  List.mem_filterMap.mpr ⟨b, hb, by rw [e]; rfl⟩

def Abs (X : Cx) (H1 : Hp) (sc : Shared) (ex B : List Addr) (H : Hp) (s : Shared) : Prop :=
  s.os = sc.os ∧ AllBare s.gens ∧ Un (frs X.stack) ex H1 H sc.heap s.heap ∧ HOk X.prog X.w H s.heap ∧ ∀ b ∈ B, H b = none
def YG (X : Cx) (H1 : Hp) (sc : Shared) (ex B : List Addr) (Cr : List V → Heap → Prop) (W : List V → Hp → Prop) (Out : List V → V → Hp → Prop) (a : Addr) (g : Nat) : Protocol := fun n s₀ v s1 kap =>
  ∃ ys y H, n + 1 + ys.length = sizeLine ∧ RelV y v ∧ Out ys y H ∧ Cr ys s1.heap ∧ Abs X H1 sc ex B H s1 ∧ s1.heap.NoLimit ∧ s1.heap.IsGen a g ∧
    ∀ s', W (ys ++ [y]) H → Cr (ys ++ [y]) s'.heap → s'.os = sc.os → AllBare s'.gens → (∀ b o, b ∉ B → s1.heap.get? b = some o → s'.heap.get? b = some o) → kap (.send .none) s'
def RG (X : Cx) (H1 : Hp) (sc : Shared) (ex B : List Addr) (Cr : List V → Heap → Prop) (Fin : List V → Hp → Prop) : GenEnd := fun n s₀ r s1 =>
  r = .ok .next ∧ ∃ ys H, ys.length ≤ sizeLine ∧ Fin ys H ∧ Cr ys s1.heap ∧ Abs X H1 sc ex B H s1

/-- the turns -/
def GStep (J : It) (g : TG) (te : TE) (σg : L2.St) (W Fin : List V → Hp → Prop) (Out : List V → V → Hp → Prop) : Prop :=
  ∀ ys H, W ys H → (J.stop ys.length H ∧ Fin ys H) ∨ (J.go ys.length H ∧ ∀ x H', J.yld ys.length H x H' → g x σg H' fun σ2 H2 => Le σg σ2 ∧ te σ2 H2 fun y H3 => ys.length < sizeLine ∧ Out ys y H3)

section
variable {X : Cx} {N : List Str} {scope : Scope} {C bi : Addr} {cl : List (Str × Addr)} {code : Value} {A : Around} {sc : Shared} {H1 : Hp} {fp B : List Addr} {a : Addr} {gn : Nat} {go : Obj}
  {elt tg iter : Expr} {pos : Pos} {J : It} {it : Addr} {tn : Nat → Heap → Prop} {g : TG} {te : TE} {σg : L2.St} {W Fin : List V → Hp → Prop} {Out : List V → V → Hp → Prop} {Cr : List V → Heap → Prop}

theorem gloop (hco : scope.isCoroutine = false) (hgo : ∀ h : Heap, h.get? a = some go → h.IsGen a gn) (T : Turn X.prog X.w X.K tg J fp it tn) (CB : Cons B Cr) (hB : ∀ b ∈ B, sc.heap.objs.size ≤ b ∧ b ≠ C ∧ b ≠ a ∧ (∀ x c, cl.lookup x = some c → c ≠ b) ∧ b ∉ fp)
    (hg : PG (gxc X N (genEnv scope cl C code bi X.env) A sc H1 fp [(a, go)]) tg g) (he : PE (gxc X N (genEnv scope cl C code bi X.env) A sc H1 fp [(a, go)]) elt te) (step : GStep J g te σg W Fin Out) :
    ∀ (m : Nat) (ys : List V) (s₀ s : Shared) (H : Hp), m + ys.length = sizeLine → W ys H → Cr ys s.heap → Inv (gxc X N (genEnv scope cl C code bi X.env) A sc H1 fp [(a, go)]) (pinsOf B s.heap) σg H s →
      (∀ b ∈ fp, FpOk (gxc X N (genEnv scope cl C code bi X.env) A sc H1 fp [(a, go)]) (pinsOf B s.heap) H b) → tn ys.length s.heap →
      Seg (model X.prog X.w) A (RG X H1 sc fp B Cr Fin) (YG X H1 sc fp B Cr W Out a gn) m s₀ (.compLoop (.GeneratorExp elt [⟨tg, iter, [], 0⟩] scope pos) 0 (.ref it) .none (genEnv scope cl C code bi X.env))
        ((model X.prog X.w).den (.compLoop (.GeneratorExp elt [⟨tg, iter, [], 0⟩] scope pos) 0 (.ref it) .none (genEnv scope cl C code bi X.env))) [] s := by
  intro m
  induction m using Nat.strongRecOn with
  | ind m ih =>
  intro ys s₀ s H hm hW hCr I hF ht
  have absOf : ∀ {pins : List (Addr × Obj)} {σ : L2.St} {H' : Hp} {s' : Shared}, (∀ b ∈ B, ∃ o, (b, o) ∈ pins) → Inv (gxc X N (genEnv scope cl C code bi X.env) A sc H1 fp [(a, go)]) pins σ H' s' → Abs X H1 sc fp B H' s' :=
    fun {pins σ H' s'} hp J' => ⟨J'.os, J'.bare, J'.base, J'.hok, fun b hb => by
      obtain ⟨o, ho⟩ := hp b hb
      exact (J'.pin (b, o) (List.mem_append_right _ ho)).2.1⟩
  have pinB : ∀ b ∈ B, ∃ o, (b, o) ∈ pinsOf B s.heap := fun b hb => by
    obtain ⟨o, ho, _⟩ := CB.obj ys _ hCr b hb
    exact ⟨o, pinsOf_mem hb ho⟩
  have crOf : ∀ {σ : L2.St} {H' : Hp} {s' : Shared}, Inv (gxc X N (genEnv scope cl C code bi X.env) A sc H1 fp [(a, go)]) (pinsOf B s.heap) σ H' s' → Cr ys s'.heap := fun {σ H' s'} J' =>
    CB.keep ys _ _ hCr fun b hb o ho => (J'.pin (b, o) (List.mem_append_right _ (pinsOf_mem hb ho))).1
  show Seg _ A _ _ _ s₀ _ ((compTurn (.GeneratorExp elt [⟨tg, iter, [], 0⟩] scope pos) 0 (.ref it) .none (genEnv scope cl C code bi X.env)).onRaise (leaving _)) [] s
  rw [compTurn_gen, Sem.onRaise_eq_wrap]
  refine seg_bind_wrap (wpAny_standAt (seg_bind_wrap ?_))
  rw [over_lp rfl]
  rcases step ys H hW with ⟨hs, hfin⟩ | ⟨hgo', hgo2⟩
  · refine wpAny_mono (T.done (gxc X N (genEnv scope cl C code bi X.env) A sc H1 fp [(a, go)]) rfl rfl rfl rfl ys.length _ s σg H (fun _ _ => False) I hF ht hs) (fun r s1 h1 => ?_) fun _ _ z => z.elim
    obtain ⟨rfl, I1⟩ := h1
    exact seg_end (.ok .next) ⟨rfl, ys, H, by omega, hfin, crOf I1, absOf pinB I1⟩
  · refine wpAny_mono (T.item (gxc X N (genEnv scope cl C code bi X.env) A sc H1 fp [(a, go)]) rfl rfl rfl rfl ys.length _ s σg H (fun _ _ => False) I hF ht hgo') (fun r s1 h1 => ?_) fun _ _ z => z.elim
    obtain ⟨u, rfl, h1⟩ := h1
    refine seg_bind_wrap ?_
    rw [over_lp rfl]
    refine wpAny_mono h1 (fun _ s2 h2 => ?_) fun _ _ z => z.elim
    obtain ⟨x, H2, I2, rx, hy, ht2, hF2⟩ := h2
    have objF := T.obj _ _ ht2
    have I3 : Inv (gxc X N (genEnv scope cl C code bi X.env) A sc H1 fp [(a, go)]) (pinsOf B s.heap ++ pinsOf fp s2.heap) σg H2 s2 := I2.pins_of fun p hp => by
      rcases List.mem_append.mp hp with z | z
      · exact I2.pin p (List.mem_append_right _ z)
      · obtain ⟨z1, z2⟩ := mem_pinsOf z
        obtain ⟨_, f1, f2, _, _, _⟩ := hF p.1 z1
        obtain ⟨o, ho, hd⟩ := objF p.1 z1
        rw [ho] at z2
        cases z2
        exact ⟨ho, hF2 _ z1, f1, f2, hd⟩
    refine seg_bind_wrap ?_
    rw [over_lp rfl]
    refine wpAny_mono (hg.run _ s2 σg H2 x u _ I3 rx (hgo2 x H2 hy)) (fun _ s3 h3 => ?_) fun _ _ z => z.elim
    obtain ⟨σ3, H3, J3, le3, q3⟩ := h3
    simp only [List.forIn_nil]
    refine seg_bind_wrap (wpAny_pure ?_)
    simp only [if_true]
    have hyo : ∀ v, yieldOut (genEnv scope cl C code bi X.env) v = yieldValue v := fun v => by
      unfold yieldOut
      rw [show (genEnv scope cl C code bi X.env).scope.isCoroutine = false from hco]
      rfl
    simp only [hyo]
    rw [Sem.bind_eq_wrap', Sem.bind_eq_wrap', Sem.wrap_wrap, Sem.wrap_wrap]
    refine seg_wrap ?_
    rw [over_lp rfl]
    refine wpAny_mono (he.run _ s3 σ3 H3 _ J3 q3) (fun yv s4 h4 => ?_) fun _ _ z => z.elim
    obtain ⟨y, H4, J4, ry, hlt, hout⟩ := h4
    obtain ⟨m', rfl⟩ : ∃ m', m = m' + 1 := ⟨m - 1, by omega⟩
    have inL : ∀ {p : Addr × Obj}, p ∈ pinsOf B s.heap → p ∈ [(a, go)] ++ (pinsOf B s.heap ++ pinsOf fp s2.heap) := fun z => List.mem_append_right _ (List.mem_append_left _ z)
    have inR : ∀ {p : Addr × Obj}, p ∈ pinsOf fp s2.heap → p ∈ [(a, go)] ++ (pinsOf B s.heap ++ pinsOf fp s2.heap) := fun z => List.mem_append_right _ (List.mem_append_right _ z)
    have cr4 : Cr ys s4.heap := CB.keep ys _ _ hCr fun b hb o ho => (J4.pin (b, o) (inL (pinsOf_mem hb ho))).1
    have fpk : ∀ b ∈ fp, ∀ o, s2.heap.get? b = some o → s4.heap.get? b = some o := fun b hb o ho => (J4.pin (b, o) (inR (pinsOf_mem hb ho))).1
    have ht4 : tn (ys.length + 1) s4.heap := T.keep _ _ _ ht2 fpk
    have B4 : ∀ b ∈ B, H4 b = none ∧ b ≠ C ∧ b ∉ frs X.stack := fun b hb => by
      obtain ⟨o, ho⟩ := pinB b hb
      obtain ⟨_, q1, q2, q3, _⟩ := J4.pin (b, o) (inL ho)
      exact ⟨q1, q2, q3⟩
    have F4 : ∀ b ∈ fp, H4 b = none := fun b hb => by
      obtain ⟨o, ho, _⟩ := objF b hb
      exact (J4.pin (b, o) (inR (pinsOf_mem hb ho))).2.1
    refine seg_at (seg_yield rfl rfl rfl ⟨ys, y, H4, by omega, ry, hout, cr4, ⟨J4.os, J4.bare, J4.base, J4.hok, fun b hb => (B4 b hb).1⟩, J4.nolimit, hgo _ (J4.pin (a, go) (List.mem_append_left _ (List.mem_singleton.mpr rfl))).1, fun s5 hW5 hC5 ho5 hb5 hk5 => ?_⟩)
    have J4' : Inv (gxc X N (genEnv scope cl C code bi X.env) A sc H1 fp [(a, go)]) [] σg H4 s4 := (J4.weak le3.1.symm le3.2).pins_of fun p hp => by cases hp
    have nB : ∀ b u, H4 b = some u → b ∉ B := fun b u e hb => by
      rw [(B4 b hb).1] at e
      cases e
    have hok5 : HOk X.prog X.w H4 s5.heap := fun b u e => (J4'.hok b u e).stay (fun c v hc q => hk5 c v (by
        rcases hc with z | z
        · rw [z]; exact nB b u e
        · exact nB c _ z) q) (fun _ q => q) fun _ _ q => q
    have J5 : Inv (gxc X N (genEnv scope cl C code bi X.env) A sc H1 fp [(a, go)]) [] σg H4 s5 := J4'.call' (ch := B) (ho5.trans J4'.os.symm)
      ⟨fun b o e n _ hx => hk5 b o hx e, fun b o e n _ hx => ⟨o.slots, hk5 b o hx e⟩, fun b o e n _ => n, fun b o e hx => ⟨o, hk5 b o hx e⟩, fun _ _ q => q, fun _ _ _ q => q, fun b ps q => ⟨#[], by rw [q]; simp⟩⟩ hok5 hb5
      fun b hb => ⟨.inr (hB b hb).1, (hB b hb).2.1, (hB b hb).2.2.2.1, fun p hp => by
        rcases List.mem_append.mp hp with z | z
        · rw [List.mem_singleton.mp z]
          exact Ne.symm (hB b hb).2.2.1
        · cases z⟩
    have J6 : Inv (gxc X N (genEnv scope cl C code bi X.env) A sc H1 fp [(a, go)]) (pinsOf B s5.heap) σg H4 s5 := J5.pins_of fun p hp => by
      obtain ⟨z1, z2⟩ := mem_pinsOf hp
      obtain ⟨o, ho, hd⟩ := CB.obj _ _ hC5 p.1 z1
      rw [ho] at z2
      cases z2
      exact ⟨ho, (B4 _ z1).1, (B4 _ z1).2.1, (B4 _ z1).2.2, hd⟩
    have hl5 : (ys ++ [y]).length = ys.length + 1 := by simp
    refine seg_again rfl (ih m' (by omega) (ys ++ [y]) s5 s5 H4 (by omega) hW5 hC5 J6 (fun b hb => ?_) ?_)
    · obtain ⟨_, f1, f2, f3, f4, f5⟩ := hF b hb
      refine ⟨F4 b hb, f1, f2, f3, f4, fun p hp => ?_⟩
      rcases List.mem_append.mp hp with z | z
      · exact f5 p (List.mem_append_left _ z)
      · obtain ⟨z1, _⟩ := mem_pinsOf z
        exact fun z => (hB p.1 z1).2.2.2.2 (by rw [z]; exact hb)
    · rw [hl5]
      exact T.keep _ _ _ ht4 fun b hb o e => hk5 b o (fun hb2 => (hB b hb2).2.2.2.2 hb) e
end
end BT

namespace BT
open PySem PySem.Spec PyProof.Rows L2 GenW
abbrev TabB := @GxR.TabB
abbrev TabG := @GxR.TabG
abbrev Tabbed := @GxR.Tabbed

/-- a generator of an expression that has not begun -/
def GM (X : Cx) (k : Nat) (H1 : Hp) (sc : Shared) (ex : List Addr) (W Fin : List V → Hp → Prop) (Out : List V → V → Hp → Prop) (u : Value) (s' : Shared) : Prop :=
  ∃ (a : Addr) (g : Nat) (c : Code), u = .ref a ∧ sc.heap.objs.size ≤ a ∧ a < s'.heap.objs.size ∧ s'.heap.IsGen a g ∧ s'.gens[g]? = some (.fresh c) ∧ s'.os = sc.os ∧ AllBare s'.gens ∧ s'.heap.NoLimit ∧ (∀ b o, sc.heap.get? b = some o → s'.heap.get? b = some o) ∧ W [] H1 ∧
    ∀ (A : Around) (B : List Addr) (Cr : List V → Heap → Prop) (s2 : Shared), Room (k + 1) A → A.frames = some X.stack → Cons B Cr → (∀ b ∈ B, s'.heap.objs.size ≤ b) → (∀ b o, s'.heap.get? b = some o → s2.heap.get? b = some o) → Cr [] s2.heap → s2.os = sc.os → AllBare s2.gens →
      Seg (model X.prog X.w) A (RG X H1 sc ex B Cr Fin) (YG X H1 sc ex B Cr W Out a g) sizeLine s2 c ((model X.prog X.w).den c) [] s2

/-! ### the frame's own cells -/
theorem cellsFrom_app : ∀ (names : List (Str × NameKind)) (n : Nat) (acc : List (Str × Addr)), cellsFrom n names acc = cellsFrom n names [] ++ acc
  | [], _, _ => rfl
  | (x, k) :: r, n, acc => by
    unfold cellsFrom
    split
    · rw [cellsFrom_app r (n + 1) ((x, n) :: acc), cellsFrom_app r (n + 1) [(x, n)], List.append_assoc]
      rfl
    · exact cellsFrom_app r n acc
theorem cellsFrom_name : ∀ {names : List (Str × NameKind)} {n : Nat} {acc : List (Str × Addr)} {x : Str} {c : Addr}, (x, c) ∈ cellsFrom n names acc → (x, c) ∈ acc ∨ (x, NameKind.cell) ∈ names
  | [], _, _, _, _, h => .inl h
  | (y, k) :: r, n, acc, x, c, h => by
    unfold cellsFrom at h
    split at h
    · rename_i hk
      rcases cellsFrom_name h with z | z
      · rcases List.mem_cons.mp z with e | z
        · cases e
          exact .inr (by rw [show k = NameKind.cell by simpa using hk]; exact List.mem_cons_self)
        · exact .inl z
      · exact .inr (List.mem_cons_of_mem _ z)
    · rcases cellsFrom_name h with z | z
      · exact .inl z
      · exact .inr (List.mem_cons_of_mem _ z)
theorem nodup_val {α : Type} : ∀ {l : List (Str × α)} {x : Str} {a b : α}, (l.map (·.1)).Nodup → (x, a) ∈ l → (x, b) ∈ l → a = b
  | (y, v) :: r, x, a, b, h, h1, h2 => by
    obtain ⟨n1, n2⟩ := List.nodup_cons.mp h
    rcases List.mem_cons.mp h1 with e1 | e1 <;> rcases List.mem_cons.mp h2 with e2 | e2
    · cases e1; cases e2; rfl
    · cases e1
      exact absurd (List.mem_map.mpr ⟨_, e2, rfl⟩) n1
    · cases e2
      exact absurd (List.mem_map.mpr ⟨_, e1, rfl⟩) n1
    · exact nodup_val n2 e1 e2
section
variable {M : Model} {A : Around} {E : Value → Shared → Prop} {s : Shared}
theorem newEnvG {scope : Scope} {globals bi : Addr} {cl : List (Str × Addr)} {qual : Str} {code it : Value} {Q : Env → Shared → Prop} (hk : scope.kind = .function) (h0 : scope.names.lookup (".0" : Str) = some NameKind.local)
    (hQ : ∀ (h' : Heap) (tk : Nat), h'.Ns s.heap.objs.size (fun y => if y = ".0" then some it else none) → (∀ b o, s.heap.get? b = some o → h'.get? b = some o) → s.heap.objs.size < h'.objs.size →
      (∀ n c, (n, c) ∈ cellsFrom (s.heap.objs.size + 1) scope.names [] → h'.IsCell c none ∧ s.heap.objs.size + 1 ≤ c) → ((cellsFrom (s.heap.objs.size + 1) scope.names []).Pairwise fun x y => x.2 ≠ y.2) →
      Q (newEnv scope s.heap.objs.size globals (cellsFrom (s.heap.objs.size + 1) scope.names cl) qual none code none bi) { s with heap := h', toks := tk }) :
    wpAny M A (newFunctionEnv scope globals cl [(".0", it)] qual none code none bi) Q E s := by
  simp only [newFunctionEnv, Option.isSome_none, Bool.false_eq_true, if_false]
  refine wpAny_bind (wpAny_alloc ?_)
  refine wpAny_bind (wpAny_layCells _ (fun name kind cells => by cases hkc : kind == NameKind.cell <;> simp [hkc]) _ _ _ _ ?_)
  have hz : (s.heap.push { cls := .type "frame", data := .dict #[] }).objs.size = s.heap.objs.size + 1 := Heap.size_push ..
  have ok := cellsFrom_ok scope.names (s.heap.push { cls := .type "frame", data := .dict #[] }) (s.heap.objs.size + 1) [] ⟨fun _ _ hm => (nomatch hm), List.Pairwise.nil⟩ (by rw [hz]; exact Nat.le_refl _)
  rw [hz] at ok
  rw [show ({ s with heap := s.heap.push { cls := .type "frame", data := .dict #[] } } : Shared).heap.objs.size = s.heap.objs.size + 1 from hz]
  rw [List.forIn_cons]
  refine wpAny_bind (wpAny_bind (wpAny_bind ?_))
  have ns1 := (Heap.Ns.new s.heap (.type "frame")).keeps (pushCells_keeps scope.names (s.heap.push { cls := .type "frame", data := .dict #[] }))
  refine wpAny_storeName_local (env := newEnv scope s.heap.objs.size globals (cellsFrom (s.heap.objs.size + 1) scope.names cl) qual none code none bi) h0 ns1 (fun h' hn' hs' => ?_) (by show (scope.kind == .class || (scope.kind == .module && _)) = false; rw [hk]; rfl)
  refine wpAny_pure ?_
  dsimp only
  rw [List.forIn_nil]
  refine wpAny_pure (wpAny_pure (hQ h' _ ?_ (fun b o e => ?_) ?_ (fun n c hm => ?_) ok.apart))
  · have e : (fun y : Str => if y = (".0" : Str) then some it else (fun _ => none) y) = fun y : Str => if y = (".0" : Str) then some it else none := rfl
    exact hn'
  · exact hs'.extBut b o (Nat.ne_of_lt (Heap.lt_size e)) (pushCells_keeps _ _ b o (Heap.get?_push_of_some _ e))
  · exact hn'.lt
  · obtain ⟨o1, o2⟩ := ok.empty n c hm
    exact ⟨o1.sameBut hs' (Nat.ne_of_gt o2), o2⟩
theorem gxMake {env : Env} {elt target iter : Expr} {ifs : List Expr} {scope : Scope} {cl : List (Str × Addr)} {pos : Pos} {Q : Value → Shared → Prop}
    (hco : scope.isCoroutine = false) (hclos : closureFor scope env = pure cl) (h0 : scope.names.lookup (".0" : Str) = some NameKind.local) (hkind : scope.kind = .function) (hroom : A.depth < recursionLimit)
    (h : wpAny M A (eval iter env) (fun xv s₁ => wpAny M A (pyIter xv) (fun it s₂ => s₂.heap.NoLimit ∧
      wpAny M A (genexprCode env pos (env.qual ++ "<genexpr>") scope) (fun code s₃ => wpAny M A (builtinsFor env.globals env.builtins) (fun bi s₄ =>
        ∀ (h' : Heap) (tk : Nat), h'.Ns s₄.heap.objs.size (fun y => if y = ".0" then some it else none) → (∀ b o, s₄.heap.get? b = some o → h'.get? b = some o) → s₄.heap.objs.size < h'.objs.size →
          (∀ n c, (n, c) ∈ cellsFrom (s₄.heap.objs.size + 1) scope.names [] → h'.IsCell c none ∧ s₄.heap.objs.size + 1 ≤ c) → ((cellsFrom (s₄.heap.objs.size + 1) scope.names []).Pairwise fun x y => x.2 ≠ y.2) →
          Q (.ref h'.objs.size) { s₄ with
            gens := s₄.gens.push (.fresh (.compStart (.GeneratorExp elt [⟨target, iter, ifs, 0⟩] scope pos) 0 it .none (genEnv scope (cellsFrom (s₄.heap.objs.size + 1) scope.names cl) s₄.heap.objs.size code bi env))),
            toks := tk + 1 + 1,
            heap := h'.push { cls := .type "generator", data := .fields #[.int s₄.gens.size 0, .str "<genexpr>" tk, .str (env.qual ++ "<genexpr>") (tk + 1)] } }) E s₃) E s₂) E s₁) E s)
    (hs : ∀ x, genFold iter env x = pure x) :
    wpAny M A (eval (.GeneratorExp elt [⟨target, iter, ifs, 0⟩] scope pos) env) Q E s := by
  rw [eval_GeneratorExp1 _ _ _ _ _ _ _ hco, hclos]
  refine wpAny_bind (wpAny_mono h (fun xv s₁ h₁ => wpAny_bind (wpAny_standAt (wpAny_bind (wpAny_of_eq (hs xv) ?_)))) fun _ _ e => e)
  refine wpAny_bind (wpAny_holding (wpAny_mono h₁ (fun it s₂ h₂ => wpAny_bind (wpAny_enterFrame h₂.1 hroom (wpAny_bind (wpAny_pure ?_)))) fun _ _ e => e))
  refine wpAny_bind (wpAny_mono h₂.2 (fun code s₃ h₃ => wpAny_bind (wpAny_mono h₃ (fun bi s₄ h₄ => ?_) fun _ _ e => e)) fun _ _ e => e)
  refine wpAny_bind (newEnvG hkind h0 fun h' tk a1 a2 a3 a4 a5 => ?_)
  simp only [newGenerator, newFields]
  refine wpAny_bind (wpAny_newGen (wpAny_bind (wpAny_mkText (wpAny_bind (wpAny_mkText (wpAny_newObj_type ?_ (by size_fits)))))))
  exact h₄ h' tk a1 a2 a3 a4 a5
end

section
variable {X : Cx} {pins : List (Addr × Obj)} {σ : L2.St} {H : Hp} {s : Shared}
/-- the cells of the frame: those of the def around, then its own -/
abbrev gcl (X : Cx) (scope : Scope) (C : Addr) : List (Str × Addr) := cellsFrom (C + 1) scope.names (cloFrom X.env.cells scope.names [])
theorem gcl_mem {scope : Scope} {C : Addr} {x : Str} {c : Addr} (hfre : ∀ y ∈ scope.names, y.2 = .free → X.env.scope.names.lookup y.1 = some .cell) (I : Inv X pins σ H s) (e : (gcl X scope C).lookup x = some c) :
    ((x, NameKind.free) ∈ scope.names ∧ X.env.cells.lookup x = some c) ∨ ((x, NameKind.cell) ∈ scope.names ∧ (x, c) ∈ cellsFrom (C + 1) scope.names []) := by
  have hm := PySem.mem_of_lookup e
  rw [gcl, cellsFrom_app] at hm
  rcases List.mem_append.mp hm with z | z
  · rcases cellsFrom_name z with y | y
    · cases y
    · exact .inr ⟨y, z⟩
  · rcases cloFrom_mem z with y | ⟨y1, y2⟩
    · cases y
    · obtain ⟨c', hc'⟩ := I.ok.has x (.inl (hfre _ y1 rfl))
      rw [hc'] at y2
      exact .inl ⟨y1, by rw [hc', show c = c' from y2]⟩
theorem gcl_has {scope : Scope} {C : Addr} {x : Str} (h : scope.names.lookup x = some .free ∨ scope.names.lookup x = some .cell) : ∃ c, (gcl X scope C).lookup x = some c := by
  rcases h with h | h
  · exact mem_lookup (cells_acc (cloFrom_has (PySem.mem_of_lookup h)))
  · obtain ⟨c, hc⟩ := cells_has (n := C + 1) (acc := cloFrom X.env.cells scope.names []) (PySem.mem_of_lookup h)
    exact mem_lookup hc
/-- the frame of the element at its beginning -/
theorem inv_gx {N : List Str} {js : List (Option Nat)} {scope : Scope} {A : Around} {C bi : Addr} {code : Value} {fp B : List Addr} {a : Addr} {go : Obj} {s2 : Shared} {m : Str → Option Value} (ok : GxOk X.N X.env.scope N js scope) (I : Inv X pins σ H s) (hfr : A.frames = some X.stack) (hh : A.handled = none)
    (hC : s.heap.objs.size ≤ C) (hbi : bi = builtinsNs) (hfp : ∀ b ∈ fp, FpOk X pins H b ∧ b < s.heap.objs.size) (hk : ∀ b o, s.heap.get? b = some o → s2.heap.get? b = some o) (hns : s2.heap.Ns C m) (hos : s2.os = s.os) (hb : AllBare s2.gens)
    (hcel : ∀ n c, (n, c) ∈ cellsFrom (C + 1) scope.names [] → s2.heap.IsCell c none ∧ C + 1 ≤ c) (hapt : (cellsFrom (C + 1) scope.names []).Pairwise fun x y => x.2 ≠ y.2)
    (haC : a ≠ C) (ha : s.heap.objs.size ≤ a) (hga : s2.heap.get? a = some go) (hgd : ∀ v, go.data ≠ .cell v) (hB : ∀ b ∈ B, s.heap.objs.size ≤ b ∧ b ≠ C ∧ ∃ o, s2.heap.get? b = some o ∧ ∀ v, o.data ≠ .cell v) :
    Inv (gxc X N (genEnv scope (gcl X scope C) C code bi X.env) A s H fp [(a, go)]) (pinsOf B s2.heap) (capt σ js) H s2 := by
  have cases_ : ∀ x c, (gcl X scope C).lookup x = some c → ((x, NameKind.free) ∈ scope.names ∧ X.env.cells.lookup x = some c) ∨ ((x, NameKind.cell) ∈ scope.names ∧ (x, c) ∈ cellsFrom (C + 1) scope.names []) := fun x c e => gcl_mem ok.fre I e
  have clt : ∀ x c, X.env.cells.lookup x = some c → c < s.heap.objs.size := fun x c e => by
    obtain ⟨v, o, ho, _⟩ := I.cell x c e
    exact Heap.lt_size ho
  have yng : ∀ b, s.heap.objs.size ≤ b → b ∉ frs X.stack := fun b hb z => by
    rcases List.mem_cons.mp (I.stkSub b z) with z | z
    · rw [z] at hb
      exact absurd (Nat.lt_of_lt_of_le I.lt hb) (Nat.lt_irrefl _)
    · exact I.nofs hb z
  have okX : (gxc X N (genEnv scope (gcl X scope C) C code bi X.env) A s H fp [(a, go)]).Ok := by
    refine ⟨I.ok.mod, ok.kind, I.ok.glob, hbi, hC, fun x y c h1 h2 => ?_, fun x hx => ?_, fun x c hf e => ?_, fun _ => hh, Around.frames_deeper hfr, .inr ⟨rfl, rfl⟩, fun b hb => ⟨?_, fun x c e => ?_⟩, I.bs, Nat.le_trans I.ok.bsz I.sz, fun b o e hb => ?_, fun b hb hb2 => ?_, I.stack, I.stkFree⟩
    · rcases cases_ x c h1 with ⟨_, z1⟩ | ⟨_, z1⟩ <;> rcases cases_ y c h2 with ⟨_, z2⟩ | ⟨_, z2⟩
      · exact I.ok.inj x y c z1 z2
      · have q1 := clt x c z1
        have q2 := (hcel _ _ z2).2
        exact absurd (Nat.lt_of_lt_of_le q1 hC) (Nat.not_lt_of_le (Nat.le_of_succ_le q2))
      · have q1 := clt y c z2
        have q2 := (hcel _ _ z1).2
        exact absurd (Nat.lt_of_lt_of_le q1 hC) (Nat.not_lt_of_le (Nat.le_of_succ_le q2))
      · exact name_of_addr hapt z1 z2
    · rcases hx with hx | hx
      · exact gcl_has (.inr hx)
      · exact gcl_has (.inl hx)
    · have hf' : (scope.names.lookup x == some NameKind.cell) = true := hf
      have hf2 : scope.names.lookup x = some NameKind.cell := by simpa using hf'
      rcases cases_ x c e with ⟨z, _⟩ | ⟨_, z⟩
      · have q1 := nodup_val ok.nodup z (PySem.mem_of_lookup hf2)
        cases q1
      · exact Nat.le_trans hC (Nat.le_of_succ_le (hcel _ _ z).2)
    · exact Nat.ne_of_lt (Nat.lt_of_lt_of_le (hfp b hb).2 hC)
    · rcases cases_ x c e with ⟨_, z⟩ | ⟨_, z⟩
      · exact (hfp b hb).1.2.2.2.2.1 x c z
      · exact Nat.ne_of_gt (Nat.lt_of_lt_of_le (hfp b hb).2 (Nat.le_trans hC (Nat.le_of_succ_le (hcel _ _ z).2)))
    · obtain ⟨⟨_, f1, f2, f3, _, _⟩, _⟩ := hfp b hb
      rcases f3 with z | z
      · exact I.ok.noex b o e z
      · have q := Heap.lt_size (I.ok.bs b o e).1
        exact absurd (Nat.lt_of_lt_of_le q z) (Nat.lt_irrefl _)
    · obtain ⟨⟨_, f1, f2, _, _, _⟩, _⟩ := hfp b hb
      rcases List.mem_cons.mp (I.stkSub b hb2) with z | z
      · exact f1 z
      · exact f2 z
  refine ⟨okX, hos, hb, Un.kept hk, ⟨m, hns, fun i x v e1 e2 e3 => ?_⟩, fun x c e => ?_, I.hok.fresh hC, fun x c e => ?_, fun p hp => ?_, I.hok.kept hk, ?_⟩
  · unfold capt at e2
    rw [List.getElem?_map] at e2
    cases hj : js[i]? with
    | none => rw [hj] at e2; cases e2
    | some o =>
      rw [hj] at e2
      cases o with
      | none => cases e2
      | some j =>
        obtain ⟨y, n1, n2, n3, n4⟩ := ok.cap i j hj
        have ey : y = x := Option.some.inj (n1.symm.trans e1)
        subst ey
        have e4 : (σ[j]?).join = some v := Option.some.inj e2
        have e5 : σ[j]? = some (some v) := by
          cases hs : σ[j]? with
          | none => rw [hs] at e4; cases e4
          | some w => rw [hs] at e4; cases e4; rfl
        obtain ⟨m0, _, hl⟩ := I.loc
        obtain ⟨u, ru, lk⟩ := hl j y v n2 e5 (.inr (.inl n4))
        refine ⟨u, ru, .inr ⟨.inr n3, ?_⟩⟩
        obtain ⟨c, hc⟩ := gcl_has (X := X) (C := C) (.inl n3)
        have hcx : X.env.cells.lookup y = some c := by
          rcases cases_ y c hc with ⟨_, z⟩ | ⟨z, _⟩
          · exact z
          · have q1 := nodup_val ok.nodup z (PySem.mem_of_lookup n3)
            cases q1
        rcases lk with ⟨q, _⟩ | ⟨_, c', hc', hcell⟩
        · have q' : X.env.scope.names.lookup y = some .local := q
          rw [n4] at q'
          cases q'
        · have ec : c = c' := Option.some.inj (hcx.symm.trans hc')
          obtain ⟨o, ho, hd⟩ := hcell
          exact ⟨c, hc, o, hk _ _ (by rw [ec]; exact ho), hd⟩
  · rcases cases_ x c e with ⟨_, z⟩ | ⟨_, z⟩
    · obtain ⟨v, o, ho, hd⟩ := I.cell x c z
      exact ⟨v, o, hk _ _ ho, hd⟩
    · exact ⟨none, (hcel _ _ z).1⟩
  · rcases cases_ x c e with ⟨_, z⟩ | ⟨_, z⟩
    · exact I.freeC x c z
    · exact I.hok.fresh (Nat.le_trans hC (Nat.le_of_succ_le (hcel _ _ z).2))
  · rcases List.mem_append.mp hp with z | z
    · rw [List.mem_singleton.mp z]
      exact ⟨hga, I.hok.fresh ha, haC, yng a ha, hgd⟩
    · obtain ⟨z1, z2⟩ := mem_pinsOf z
      obtain ⟨b1, b2, o, b3, b4⟩ := hB p.1 z1
      rw [b3] at z2
      cases z2
      exact ⟨b3, I.hok.fresh b1, b2, yng _ b1, b4⟩
  · show (capt σ js).length = N.length
    unfold capt
    rw [List.length_map, ok.len]

/-- from the start -/
theorem gstart {scope : Scope} {C bi : Addr} {cl : List (Str × Addr)} {code : Value} {A : Around} {sc : Shared} {H1 : Hp} {fp B : List Addr} {a : Addr} {gn : Nat}
    {elt tg iter : Expr} {pos : Pos} {J : It} {it : Addr} {tn : Nat → Heap → Prop} {W Fin : List V → Hp → Prop} {Out : List V → V → Hp → Prop} {Cr : List V → Heap → Prop} {s₀ s2 : Shared}
    (T : Turn X.prog X.w X.K tg J fp it tn) (ht : tn 0 s2.heap)
    (loop : Seg (model X.prog X.w) A (RG X H1 sc fp B Cr Fin) (YG X H1 sc fp B Cr W Out a gn) sizeLine s₀ (.compLoop (.GeneratorExp elt [⟨tg, iter, [], 0⟩] scope pos) 0 (.ref it) .none (genEnv scope cl C code bi X.env))
        ((model X.prog X.w).den (.compLoop (.GeneratorExp elt [⟨tg, iter, [], 0⟩] scope pos) 0 (.ref it) .none (genEnv scope cl C code bi X.env))) [] s2) :
    Seg (model X.prog X.w) A (RG X H1 sc fp B Cr Fin) (YG X H1 sc fp B Cr W Out a gn) sizeLine s₀ (.compStart (.GeneratorExp elt [⟨tg, iter, [], 0⟩] scope pos) 0 (.ref it) .none (genEnv scope cl C code bi X.env))
        ((model X.prog X.w).den (.compStart (.GeneratorExp elt [⟨tg, iter, [], 0⟩] scope pos) 0 (.ref it) .none (genEnv scope cl C code bi X.env))) [] s2 := by
  show Seg _ A _ _ _ s₀ _ ((compStart (.GeneratorExp elt [⟨tg, iter, [], 0⟩] scope pos) 0 (.ref it) .none (genEnv scope cl C code bi X.env)).onRaise (leaving _)) [] s2
  unfold compStart
  rw [Sem.onRaise_eq_wrap]
  show Seg _ A _ _ _ s₀ _ ((ask >>= _).wrap _ _ _ _) [] s2
  refine seg_bind_wrap (wpAny_askSetting ?_)
  split
  · exact seg_again rfl loop
  · refine seg_bind_wrap (wpAny_rule ?_)
    show Seg _ A _ _ _ s₀ _ ((standAt iter.pos >>= _).wrap _ _ _ _) [] s2
    exact seg_bind_wrap (wpAny_standAt (seg_bind_wrap (T.self _ 0 s2 _ _ ht (seg_again rfl loop))))

theorem gx_eval {k : Nat} {c P : Addr} {N : List Str} {js : List (Option Nat)} {scope : Scope} {elt tg iter : Expr} {gpos : Pos} {wi : TI} {g : TG} {te : TE} {Q' : Value → Shared → Prop} {Rc : Hp → (List V → Hp → Prop) → (List V → Hp → Prop) → (List V → V → Hp → Prop) → Prop}
    (hr : Room (k + 1) X.A) (TB : TabB X.base X.mg c P) (hcode : X.env.code = .ref c) (ok : GxOk X.N X.env.scope N js scope) (hi : PI X tg iter wi) (hs : ∀ v, genFold iter X.env v = pure v)
    (hg : ∀ A C code bi cl sc H fp pn, Room k (A.deeper (genEnv scope cl C code bi X.env)) → PG (gxc X N (genEnv scope cl C code bi X.env) A sc H fp pn) tg g)
    (he : ∀ A C code bi cl sc H fp pn, Room k (A.deeper (genEnv scope cl C code bi X.env)) → PE (gxc X N (genEnv scope cl C code bi X.env) A sc H fp pn) elt te)
    (I : Inv X pins σ H s) (h : wi σ H fun J H1 => TabG H1 P ∧ ∀ H2, Tabbed P H1 H2 → ∃ W Fin Out, W [] H2 ∧ GStep J g te (capt σ js) W Fin Out ∧ Rc H2 W Fin Out)
    (hQ : ∀ H2 sc fp W Fin Out u s', Inv X pins σ H2 sc → ExOk X pins fp → Rc H2 W Fin Out → GM X k H2 sc fp W Fin Out u s' → Q' u s') :
    wpAny (model X.prog X.w) X.A (eval (.GeneratorExp elt [⟨tg, iter, [], 0⟩] scope gpos) X.env) Q' X.xe s := by
  refine gxMake ok.co (closure_ok fun y hy e => I.ok.has y.1 (.inl (ok.fre y hy e))) ok.dot ok.kind (by have := hr.dp; omega) ?_ hs
  refine thn (hi.run pins s σ H _ I h) fun xv s1 h1 => thn h1 fun itv s2 h2 => ?_
  obtain ⟨it, fp, tn, J, H1, rfl, I2, T, ht, hF, ⟨ps, hP, htr⟩, hR⟩ := h2
  refine ⟨I2.nolimit, ?_⟩
  have hPs : s2.heap.get? P = some { cls := .none, data := .fields ps } := I2.hok P _ hP
  have hcP : cStatics ≠ P := fun e => by
    obtain ⟨_, hns, _⟩ := I2.nolimit
    obtain ⟨o', es, ep, ho, hd, _⟩ := hns
    rw [e, hPs] at ho
    cases ho
    cases hd
  have cd : PySem.W.CodeHd s2.heap c P := TB.code.keeps fun b u e => I2.bk b u e
  have objF := T.obj _ _ ht
  have fpne : ∀ b ∈ fp, b ≠ P := fun b hb z => by
    have q := (hF b hb).1
    rw [z, hP] at q
    cases q
  have cont : ∀ (code : Value) (h3 : Heap) (tk : Nat) (more : Array Value), Heap.ExtBut P s2.heap h3 → h3.get? P = some { cls := .none, data := .fields (ps ++ more) } → TriplesOk (ps ++ more).toList →
      wpAny (model X.prog X.w) X.A (builtinsFor X.env.globals X.env.builtins) (fun bi s₄ =>
        ∀ (h' : Heap) (tk : Nat), h'.Ns s₄.heap.objs.size (fun y => if y = ".0" then some (Value.ref it) else none) → (∀ b o, s₄.heap.get? b = some o → h'.get? b = some o) → s₄.heap.objs.size < h'.objs.size →
          (∀ n c, (n, c) ∈ cellsFrom (s₄.heap.objs.size + 1) scope.names [] → h'.IsCell c none ∧ s₄.heap.objs.size + 1 ≤ c) → ((cellsFrom (s₄.heap.objs.size + 1) scope.names []).Pairwise fun x y => x.2 ≠ y.2) →
          Q' (.ref h'.objs.size) { s₄ with
            gens := s₄.gens.push (.fresh (.compStart (.GeneratorExp elt [⟨tg, iter, [], 0⟩] scope gpos) 0 (.ref it) .none (genEnv scope (gcl X scope s₄.heap.objs.size) s₄.heap.objs.size code bi X.env))),
            toks := tk + 1 + 1,
            heap := h'.push { cls := .type "generator", data := .fields #[.int s₄.gens.size 0, .str "<genexpr>" tk, .str (X.env.qual ++ "<genexpr>") (tk + 1)] } }) X.xe { s2 with heap := h3, toks := tk } := by
    intro code h3 tk more hx hP3 htr3
    obtain ⟨bm, ob, e1, e2, e3, e4, e5, e6, e7, e8⟩ := TB.bm
    have keep3 : ∀ b u, b ≠ P → s2.heap.get? b = some u → h3.get? b = some u := fun b u hb e => hx b u hb e
    have J3 : Inv X pins σ (upd H1 P (.tbl (ps ++ more))) { s2 with heap := h3, gens := s2.gens, drawn := s2.drawn, toks := tk } := GxR.inv_tab (more := more) (g' := s2.gens) (d' := s2.drawn) (t' := tk) I2 hP keep3 hP3 I2.bare
    refine wpAny_builtinsFor (m := X.mg) (by rw [I2.ok.glob]; exact (I2.mod.glob.keeps I2.bk).extBut hx TB.gP) e1 e2 (keep3 _ _ e4 (I2.bk _ _ e5)) e6 e7 e8 ?_
    intro h' tg' hn' keep' hlt' hcel hapt
    obtain ⟨W, Fin, Out, w0, step, rc⟩ := hR (upd H1 P (.tbl (ps ++ more))) ⟨⟨ps ++ more, upd_same, htr3⟩, fun b hb => upd_ne hb⟩
    have hsz : h3.objs.size < h'.objs.size := hlt'
    have ht3 : tn 0 h3 := T.keep _ _ _ ht fun b hb o e => keep3 b o (fpne b hb) e
    have hF3 : ∀ b ∈ fp, FpOk X pins (upd H1 P (.tbl (ps ++ more))) b ∧ b < h3.objs.size := fun b hb => by
      obtain ⟨f0, f1, f2, f3, f4, f5⟩ := hF b hb
      obtain ⟨o, ho, _⟩ := objF b hb
      exact ⟨⟨by rw [upd_ne (fpne b hb)]; exact f0, f1, f2, f3, f4, f5⟩, Heap.lt_size (keep3 b o (fpne b hb) ho)⟩
    have hexok : ExOk X pins fp := fun b hb => by
      obtain ⟨f0, f1, f2, f3, f4, f5⟩ := hF b hb
      exact ⟨f3, f1, f4, f5⟩
    refine hQ _ { s2 with heap := h3, toks := tk } fp W Fin Out _ _ J3 hexok rc ?_
    have hgen : ∀ h : Heap, h.get? h'.objs.size = some { cls := .type "generator", data := .fields #[.int s2.gens.size 0, .str "<genexpr>" tg', .str (X.env.qual ++ "<genexpr>") (tg' + 1)] } → h.IsGen h'.objs.size s2.gens.size := fun h e => ⟨_, _, _, e, rfl, rfl, rfl⟩
    have keep5 : ∀ b o, h3.get? b = some o → (h'.push { cls := .type "generator", data := .fields #[.int s2.gens.size 0, .str "<genexpr>" tg', .str (X.env.qual ++ "<genexpr>") (tg' + 1)] }).get? b = some o := fun b o e => Heap.get?_push_of_some _ (keep' b o e)
    refine ⟨h'.objs.size, s2.gens.size, _, rfl, ?_, ?_, hgen _ (Heap.get?_push_size _ rfl), Array.getElem?_push_size .., rfl, AllBare.push I2.bare rfl, J3.nolimit.keeps keep5, keep5, w0, ?_⟩
    · show h3.objs.size ≤ h'.objs.size
      omega
    · show h'.objs.size < (h'.push _).objs.size
      rw [Heap.size_push]
      exact Nat.lt_succ_self _
    intro A B Cr s5 hrA hfA CB hBs hk5 hC0 ho5 hb5
    have hBs' : ∀ b ∈ B, h'.objs.size + 1 ≤ b := fun b hb => by
      have q : (h'.push _).objs.size ≤ b := hBs b hb
      rw [Heap.size_push] at q
      exact q
    have k35 : ∀ b o, h3.get? b = some o → s5.heap.get? b = some o := fun b o e => hk5 b o (keep5 b o e)
    have hrd := hrA.deeper (genEnv scope (gcl X scope h3.objs.size) h3.objs.size code builtinsNs X.env)
    have I5 : Inv (gxc X N (genEnv scope (gcl X scope h3.objs.size) h3.objs.size code builtinsNs X.env) A { s2 with heap := h3, toks := tk } (upd H1 P (.tbl (ps ++ more))) fp [(h'.objs.size, { cls := .type "generator", data := .fields #[.int s2.gens.size 0, .str "<genexpr>" tg', .str (X.env.qual ++ "<genexpr>") (tg' + 1)] })])
        (pinsOf B s5.heap) (capt σ js) (upd H1 P (.tbl (ps ++ more))) s5 := by
      refine inv_gx ok J3 hfA hrA.hd (Nat.le_refl _) rfl hF3 k35 ((hn'.push _).keeps hk5) ho5 hb5 (fun n c hm => ⟨(hcel n c hm).1.keeps fun b o e => hk5 b o (Heap.get?_push_of_some _ e), (hcel n c hm).2⟩) hapt ?_ ?_ (hk5 _ _ (Heap.get?_push_size _ rfl)) (fun v q => by cases q) fun b hb => ⟨?_, ?_, CB.obj _ _ hC0 b hb⟩
      · show h'.objs.size ≠ h3.objs.size
        omega
      · show h3.objs.size ≤ h'.objs.size
        omega
      · show h3.objs.size ≤ b
        have := hBs' b hb
        omega
      · have q1 := hBs' b hb
        exact Nat.ne_of_gt (show h3.objs.size < b by omega)
    have clt : ∀ x c, (gcl X scope h3.objs.size).lookup x = some c → c < h'.objs.size := fun x c e => by
      rcases gcl_mem ok.fre J3 e with ⟨_, z⟩ | ⟨_, z⟩
      · obtain ⟨v, o, ho, _⟩ := J3.cell x c z
        exact Nat.lt_trans (Heap.lt_size ho) hsz
      · exact (hcel _ _ z).1.lt
    refine gstart T (T.keep _ _ _ ht3 fun b hb o e => k35 b o e) (gloop ok.co (fun h e => hgen h e) T CB (fun b hb => ?_) (hg A _ _ _ _ _ _ _ _ hrd) (he A _ _ _ _ _ _ _ _ hrd) step sizeLine [] s5 s5 _ (by simp) w0 hC0 I5 (fun b hb => ?_) (T.keep _ _ _ ht3 fun b hb o e => k35 b o e))
    · have hb1 := hBs' b hb
      refine ⟨?_, ?_, ?_, fun x c e => ?_, fun z => ?_⟩
      · show h3.objs.size ≤ b
        omega
      · exact Nat.ne_of_gt (show h3.objs.size < b by omega)
      · exact Nat.ne_of_gt (show h'.objs.size < b by omega)
      · have q1 := clt x c e
        exact Nat.ne_of_lt (show c < b from Nat.lt_of_lt_of_le q1 (by omega))
      · have q1 := (hF3 b z).2
        exact absurd (show h3.objs.size < b by omega) (Nat.not_lt_of_le (Nat.le_of_lt q1))
    · obtain ⟨⟨f0, f1, f2, f3, f4, f5⟩, fl⟩ := hF3 b hb
      refine ⟨f0, Nat.ne_of_lt fl, fun z => ?_, .inl hb, fun x c e => ?_, fun p hp => ?_⟩
      · rcases List.mem_cons.mp (J3.stkSub b z) with z | z
        · exact f1 z
        · exact f2 z
      · rcases gcl_mem ok.fre J3 e with ⟨_, z⟩ | ⟨_, z⟩
        · exact f4 x c z
        · exact Nat.ne_of_gt (Nat.lt_of_lt_of_le fl (Nat.le_of_succ_le (hcel _ _ z).2))
      · rcases List.mem_append.mp hp with z | z
        · rw [List.mem_singleton.mp z]
          exact Nat.ne_of_gt (show b < h'.objs.size from Nat.lt_of_lt_of_le fl (by omega))
        · have q1 := hBs' p.1 (mem_pinsOf z).1
          exact Nat.ne_of_gt (show b < p.1 from Nat.lt_of_lt_of_le fl (by omega))
  cases hf : codeAmong gpos ps.toList with
  | none =>
    refine wpAny_genexprCodeX hcode (cd.code hPs htr) (cd.tab hPs) hf fun c' h' tk hx hge hlt hco' _ htab' _ => ?_
    obtain ⟨o1, vs, f1, tf, fl, tg1, inF, tx, tt, op, _, _, _, _, _, _, _, _, _, htr', _⟩ := hco'
    exact cont _ h' tk _ hx htab'.2 htr'
  | some cv =>
    refine wpAny_genexprCode_hit hcode (cd.code hPs htr) hf ?_
    have e0 : ps ++ #[] = ps := by simp
    exact cont cv s2.heap s2.toks #[] (Heap.ExtBut.refl _ _) (by rw [e0]; exact hPs) (by rw [e0]; exact htr)
end
end BT

namespace BT
open PySem PySem.Spec PyProof.Rows L2 GenW

/-- the list that tuple(..) fills -/
def CrS (S : Addr) (ys : List V) (h : Heap) : Prop := ∃ (acc : Array Value) (c : Nat), h.get? S = some (lstObj acc c) ∧ Vals ys acc.toList
theorem consS (S : Addr) : Cons [S] (CrS S) where
  obj := fun ys h hc b hb => by
    obtain ⟨acc, c, e, _⟩ := hc
    rw [List.mem_singleton.mp hb]
    exact ⟨_, e, fun v q => by cases q⟩
  keep := fun ys h h' hc k => by
    obtain ⟨acc, c, e, r⟩ := hc
    exact ⟨acc, c, k S (List.mem_singleton.mpr rfl) _ e, r⟩

section
variable {X : Cx} {H1 : Hp} {sc : Shared} {fp : List Addr} {W Fin : List V → Hp → Prop} {Out : List V → V → Hp → Prop}
theorem drainT {A : Around} {R : Result → Shared → Prop} {S a : Addr} {g : Nat} {res : Value} (hh : A.handled = none) (hd : A.depth < recursionLimit) (hSa : S ≠ a) (hSc : S ≠ cStatics) (hO : ∀ ys y H, Out ys y H → W (ys ++ [y]) H)
    (hend : ∀ s' acc c H' ys, s'.heap.get? S = some (lstObj acc c) → Vals ys acc.toList → ys.length ≤ sizeLine → Abs X H1 sc fp [S] H' s' → Fin ys H' → R (.ok (.ret res)) s') :
    ∀ (m : Nat) (s : Shared), s.heap.IsGen a g → s.heap.NoLimit → (∃ gs, s.gens[g]? = some gs ∧ gs.Goes (model X.prog X.w) A.in1.in1 (RG X H1 sc fp [S] (CrS S) Fin) (YG X H1 sc fp [S] (CrS S) W Out a g) m (.send .none) (s.setGen g .running)) →
      codeAny (model X.prog X.w) A (.builtin "list.extend.loop" ⟨[.ref S, .ref a, res], []⟩) R s := by
  have fin : ∀ (s₁ : Shared) (n : Nat) (s0 : Shared), (∃ (ys : List V) (H : Hp), ys.length ≤ sizeLine ∧ Fin ys H ∧ CrS S ys s₁.heap ∧ Abs X H1 sc fp [S] H s₁) → ∀ h' : Heap, (∀ b o, s₁.heap.get? b = some o → h'.get? b = some o) → R (.ok (.ret res)) { s₁.setGen g .finished with heap := h' } := fun s₁ n s0 hp h' hk => by
    obtain ⟨ys, H', hl, hf, ⟨acc, c, e, r⟩, q1, q2, q3, q4, q5⟩ := hp
    exact hend _ acc c H' ys (hk _ _ e) r hl ⟨q1, allBare_setGen q2 rfl, q3.trans (Un.kept hk), q4.kept hk, q5⟩ hf
  intro m
  induction m with
  | zero =>
    intro s hg hl ⟨gs, hgs, hgo⟩
    refine codeAny_builtin F.entry_extend_loop ?_
    rw [Around.under_plainId F.plain_extend_loop _]
    show wpAny _ A.in1 (pyNext (.ref a) >>= _) _ _ s
    refine wpAny_bind (wpAny_pyNext_genexpQ (A := A.in1) (P := fun n s₀ s₁ => ∃ (ys : List V) (H : Hp), ys.length ≤ sizeLine ∧ Fin ys H ∧ CrS S ys s₁.heap ∧ Abs X H1 sc fp [S] H s₁) hh hl hd hg hgs hgo (fun v s₁ gs' hb hv => ?_) fun s₁ hp h' hk => ?_)
    · obtain ⟨ys, y, H', hn, rv, ho, ⟨acc, c, e, r⟩, ⟨q1, q2, _⟩, _, _, hk⟩ := hv
      have z := hk { s₁.setGen g gs' with heap := s₁.heap.update S (Obj.mapSeq (·.push v)) } (hO _ _ _ ho) ⟨acc.push v, _, Heap.get?_update_self _ e rfl, by rw [Array.toList_push]; exact r.append (.cons rv .nil)⟩ q1 (allBare_setGen q2 hb)
        fun b o hb e' => (Heap.get?_update_other _ _ (fun z => hb (List.mem_singleton.mpr z.symm))).trans e'
      exact z.elim
    · exact wpAny_pure (fin s₁ 0 s hp h' hk)
  | succ m ih =>
    intro s hg hl ⟨gs, hgs, hgo⟩
    have hgl : g < s.gens.size := (Array.getElem?_eq_some_iff.mp hgs).1
    refine codeAny_builtin F.entry_extend_loop ?_
    rw [Around.under_plainId F.plain_extend_loop _]
    show wpAny _ A.in1 (pyNext (.ref a) >>= _) _ _ s
    refine wpAny_bind (wpAny_gsz (n := g + 1) hgl (wpAny_pyNext_genexpQ (A := A.in1) (P := fun n s₀ s₁ => ∃ (ys : List V) (H : Hp), ys.length ≤ sizeLine ∧ Fin ys H ∧ CrS S ys s₁.heap ∧ Abs X H1 sc fp [S] H s₁) hh hl hd hg hgs hgo (fun v s₁ gs' hb hv => ?_) fun s₁ hp h' hk => ?_))
    · intro hsz
      obtain ⟨ys, y, H', hn, rv, ho, ⟨acc, c, e, r⟩, ⟨q1, q2, _⟩, hl1, hg1, hk⟩ := hv
      have hasz : acc.size = ys.length := by
        have z1 := r.length
        have z2 : acc.toList.length = acc.size := by simp
        omega
      show wpAny _ A.in1 (updateSeq S (·.push v) >>= _) _ _ _
      refine wpAny_bind ?_
      refine wpAny_updateSeq e rfl (wpAny_pure ⟨plainId_quiet F.plain_extend_loop _, ?_⟩) (by omega) (by show (acc.push v).size ≤ sizeLine + 1; rw [Array.size_push]; omega)
      have keep3 : ∀ b o, b ≠ S → s₁.heap.get? b = some o → (s₁.heap.update S (Obj.mapSeq (·.push v))).get? b = some o := fun b o hbS e => (Heap.get?_update_other _ _ (Ne.symm hbS)).trans e
      have hsz1 : g < s₁.gens.size := by
        have q : (s₁.setGen g gs').gens.size = s₁.gens.size := setGen_size _ _ _
        have hsz' : g + 1 ≤ (s₁.setGen g gs').gens.size := hsz
        omega
      refine ih { s₁.setGen g gs' with heap := s₁.heap.update S (Obj.mapSeq (·.push v)) } ?_ ?_ ⟨gs', setGen_at hsz1, ?_⟩
      · obtain ⟨o, nm, qn, ho, r⟩ := hg1
        exact ⟨o, nm, qn, keep3 a o (Ne.symm hSa) ho, r⟩
      · obtain ⟨mc, hns, hnn⟩ := hl1
        exact ⟨mc, hns.at' fun o e => keep3 _ o (Ne.symm hSc) e, hnn⟩
      · refine hk { ({ s₁.setGen g gs' with heap := s₁.heap.update S (Obj.mapSeq (·.push v)) } : Shared).setGen g .running with heap := s₁.heap.update S (Obj.mapSeq (·.push v)) } (hO _ _ _ ho) ⟨acc.push v, _, Heap.get?_update_self _ e rfl, ?_⟩ q1 (allBare_setGen (s := s₁.setGen g gs') (allBare_setGen q2 hb) rfl) fun b o hb e' => keep3 b o (fun z => hb (List.mem_singleton.mpr z)) e'
        rw [Array.toList_push]
        exact r.append (.cons rv .nil)
    · intro _
      exact wpAny_pure (fin s₁ 0 s hp h' hk)

theorem collectG {k : Nat} {A : Around} {u : Value} {s : Shared} {Q : List Value → Shared → Prop} {E : Value → Shared → Prop} (hr : Room (k + 4) A) (hfr : A.frames = some X.stack) (h : GM X k H1 sc fp W Fin Out u s) (hO : ∀ ys y H, Out ys y H → W (ys ++ [y]) H)
    (hQ : ∀ S s' acc H' ys, s.heap.objs.size ≤ S → Vals ys acc → ys.length ≤ sizeLine → Abs X H1 sc fp [S] H' s' → Fin ys H' → Q acc s') : wpAny (model X.prog X.w) A (collect u) Q E s := by
  obtain ⟨a, g, c, rfl, ha1, ha2, hg, hgs, hos, hb, hl, hkp, w0, wake⟩ := h
  have hSa : s.heap.objs.size ≠ a := Nat.ne_of_gt ha2
  have hcl : cStatics < s.heap.objs.size := let ⟨_, hn, _⟩ := hl; hn.lt
  have hSc : s.heap.objs.size ≠ cStatics := Nat.ne_of_gt hcl
  unfold collect
  refine wpAny_bind (wpAny_runValue (codeAny_builtin F.entry_proto_collect ?_))
  rw [Around.under_plainId F.plain_proto_collect _]
  show wpAny _ A.in1 (newList [] >>= fun l => again (.builtin "list.__iadd__" ⟨[l, .ref a], []⟩)) _ _ s
  refine wpAny_bind (wpAny_newObj_type ?_)
  refine wpAny_pure ⟨plainId_quiet F.plain_list_iadd _, codeAny_builtin F.entry_list_iadd ?_⟩
  rw [Around.under_plainId F.plain_list_iadd _]
  have up : ∀ (h : Heap) (f : Obj → Obj), (∀ b o, s.heap.get? b = some o → h.get? b = some o) → ∀ b o, s.heap.get? b = some o → (h.update s.heap.objs.size f).get? b = some o := fun h f q b o e =>
    (Heap.get?_update_other _ _ (Ne.symm (Nat.ne_of_lt (Heap.lt_size e)))).trans (q b o e)
  have k1 : ∀ b o, s.heap.get? b = some o → (s.heap.push { cls := .type "list", data := .seq ([] : List Value).toArray }).get? b = some o := fun b o e => Heap.get?_push_of_some _ e
  have gty : ∀ {h : Heap}, (∀ b o, s.heap.get? b = some o → h.get? b = some o) → h.IsGen a g := fun {h} q => hg.keeps q
  show wpAny _ A.in1 (Builtin.List.listExtendWith (.ref s.heap.objs.size) (.ref a) (.ref s.heap.objs.size)) _ _ _
  unfold Builtin.List.listExtendWith
  refine wpAny_bind (wpAny_typeOf (Heap.IsGen.typeIs (s := { s with heap := _ }) (gty k1)) ?_)
  have h1 : Builtin.List.listSameRef (.ref s.heap.objs.size) (.ref a) = false := by simp [Builtin.List.listSameRef, hSa]
  have h2 : (Value.type "generator" == Value.type "list") = false := by decide
  have h3 : (Value.type "generator" == Value.type "tuple") = false := by decide
  simp only [h1, h2, h3, Bool.or_false, Bool.false_eq_true, if_false]
  refine wpAny_bind (wpAny_pyIter_gen (s := { s with heap := _ }) (gty k1) ?_)
  refine wpAny_bind (wpAny_holding ?_)
  unfold Builtin.List.listLengthHint
  refine wpAny_bind (wpAny_specialOf (Heap.IsGen.typeIs (s := { s with heap := _ }) (gty k1)) F.gen_no_len ?_)
  show wpAny _ A.in1 (specialOf (Value.ref a) (Str.ofString "__length_hint__") >>= _) _ _ _
  refine wpAny_bind (wpAny_specialOf (Heap.IsGen.typeIs (s := { s with heap := _ }) (gty k1)) F.gen_no_hint ?_)
  refine wpAny_pure ?_
  show wpAny _ A.in1 (rule "list.extend.makes-room" >>= fun _ => Builtin.List.listTouch (.ref s.heap.objs.size) >>= fun _ =>
    again (.builtin "list.extend.loop" ⟨[.ref s.heap.objs.size, .ref a, .ref s.heap.objs.size], []⟩)) _ _ _
  refine wpAny_bind (wpAny_rule ?_)
  have hS₁ : (s.heap.push { cls := .type "list", data := .seq ([] : List Value).toArray }).get? s.heap.objs.size = some { cls := .type "list", data := .seq ([] : List Value).toArray } := Heap.get?_push_size _ rfl
  refine wpAny_bind ?_
  show wpAny _ A.in1 (updateSeq s.heap.objs.size (·.push .none) >>= fun _ => updateSeq s.heap.objs.size (·.pop)) _ _ _
  refine wpAny_bind (wpAny_updateSeq hS₁ rfl ?_)
  have hS₂ := Heap.get?_update_self (Obj.mapSeq (·.push Value.none)) hS₁ rfl
  refine wpAny_updateSeq hS₂ rfl ?_
  have hS₃ := Heap.get?_update_self (Obj.mapSeq (·.pop)) hS₂ rfl
  have k3 := up _ (Obj.mapSeq (·.pop)) (up _ (Obj.mapSeq (·.push Value.none)) k1)
  refine wpAny_pure ⟨plainId_quiet F.plain_extend_loop _, ?_⟩
  refine drainT (X := X) (H1 := H1) (sc := sc) (fp := fp) (W := W) (Fin := Fin) (Out := Out) (A := A) (g := g) (S := s.heap.objs.size) (res := .ref s.heap.objs.size) hr.hd (by have := hr.dp; show A.depth < _; omega) hSa hSc hO (fun s' acc c' H' ys q1 q2 q3 q4 q5 => ?_) sizeLine _ (gty k3) (hl.keeps k3) ⟨_, hgs, rfl, ?_⟩
  · show wpAny _ A (load s.heap.objs.size >>= _) _ _ s'
    refine wpAny_bind (wpAny_load q1 (wpAny_pure ?_))
    exact hQ s.heap.objs.size s' acc.toList H' ys (Nat.le_refl _) q2 q3 q4 q5
  · refine wake _ _ _ _ ⟨hr.hd, ?_, ?_⟩ hfr (consS s.heap.objs.size) (fun b hb => by rw [List.mem_singleton.mp hb]; exact Nat.le_refl _) k3 ⟨#[], _, hS₃, .nil⟩ hos (allBare_setGen (s := { s with heap := _ }) hb rfl)
    · have := hr.dp
      show A.depth + 3 * (k + 1) + 5 < _
      omega
    · have := hr.un
      show A.units + 1 + 1 + 16 * (k + 1) + 200 < _
      omega
end
end BT

namespace BT
open PySem PySem.Spec PyProof.Rows L2 GenW

section
variable {X : Cx} {H1 : Hp} {sc : Shared} {fp : List Addr} {W Fin : List V → Hp → Prop} {Out : List V → V → Hp → Prop}
theorem codeTupG {k : Nat} {A : Around} {u : Value} {s : Shared} {Q₁ : Value → Shared → Prop} {E : Value → Shared → Prop} (hr : Room (k + 5) A) (hfr : A.frames = some X.stack) (h : GM X k H1 sc fp W Fin Out u s) (hO : ∀ ys y H, Out ys y H → W (ys ++ [y]) H)
    (hQ : ∀ S s' acc H' ys, s.heap.objs.size ≤ S → Vals ys acc → ys.length ≤ sizeLine → Abs X H1 sc fp [S] H' s' → Fin ys H' → Q₁ (.ref s'.heap.objs.size) { s' with heap := s'.heap.push { cls := .type "tuple", data := .seq acc.toArray } }) :
    codeAny (model X.prog X.w) A (.call (.builtin "tuple.__new__") ⟨[.type "tuple", u], []⟩) (wants Q₁ E) s := by
  obtain ⟨a, g, c, rfl, ha1, ha2, hg, rst⟩ := id h
  refine codeAny_of_tree ?_
  show wpAny _ A.in1 (do checkBuiltinCall "tuple.__new__" ⟨[.type "tuple", .ref a], []⟩; again (.builtin "tuple.__new__" ⟨[.type "tuple", .ref a], []⟩)) _ _ s
  refine wpAny_bind (wpAny_of_eq (F.newCall_tuple_1 _) (wpAny_pure ⟨plainId_quiet F.plain_tuple_new _, codeAny_builtin F.entry_tuple_new ?_⟩))
  rw [Around.under_plainId F.plain_tuple_new _]
  have hsub := sub_tuple_self
  have hinit := init_tuple_lookup
  have hmh := madeHere_tuple
  have hTI : s.TypeIs (.ref a) "generator" := hg.typeIs
  wp_walk using wpAny_typeOf hTI, collectG (A := A.in1) (hr.in1) hfr h hO
  intro S s' acc H' ys q1 q2 q3 q4 q5
  show wpAny _ _ (Builtin.Tuple.tupleExact acc.toArray >>= fun v => ret v) _ _ _
  unfold Builtin.Tuple.tupleExact
  refine wpAny_bind (wpAny_newObj_type ?_ (by show acc.toArray.size ≤ sizeLine; rw [List.size_toArray, ← q2.length]; exact q3))
  exact wpAny_pure (hQ S s' acc H' ys q1 q2 q3 q4 q5)
theorem callTupG {k : Nat} {A : Around} {u : Value} {s : Shared} {Q : Value → Shared → Prop} {E : Value → Shared → Prop} (hr : Room (k + 6) A) (hfr : A.frames = some X.stack) (h : GM X k H1 sc fp W Fin Out u s) (hO : ∀ ys y H, Out ys y H → W (ys ++ [y]) H)
    (hQ : ∀ S s' acc H' ys, s.heap.objs.size ≤ S → Vals ys acc → ys.length ≤ sizeLine → Abs X H1 sc fp [S] H' s' → Fin ys H' → Q (.ref s'.heap.objs.size) { s' with heap := s'.heap.push { cls := .type "tuple", data := .seq acc.toArray } }) :
    wpAny (model X.prog X.w) A (call (.type "tuple") [u]) Q E s := by
  refine callType_codes (Q₁ := fun obj s₁ => s₁.TypeIs obj "tuple" ∧ Q obj s₁) F.called_tuple (F.typeCall_tuple_1 _) F.entry_object_init
    (codeTupG (A := A.in1) hr.in1 hfr h hO fun S s' acc H' ys q1 q2 q3 q4 q5 => ⟨⟨_, Heap.get?_push_size _ rfl, rfl⟩, hQ S s' acc H' ys q1 q2 q3 q4 q5⟩) fun obj s₁ h₁ => ?_
  exact ⟨h₁.1, F.args_object_init_2 obj _, object_init_meets F.called_tuple.init.lookup F.called_tuple.made (by decide) X.prog X.w A.in1 _ s₁ ⟨h₁.1, rfl, h₁.2⟩⟩

/-- behind the walk: the frames around go on -/
theorem Abs.inv {pins : List (Addr × Obj)} {σ : L2.St} {H' : Hp} {s' : Shared} {B : List Addr} (a : Abs X H1 sc fp B H' s') (I : Inv X pins σ H1 sc) (hex : ExOk X pins fp) : Inv X pins σ H' s' :=
  I.call' (ch := fp) a.1 a.2.2.1 a.2.2.2.1 a.2.1 hex
end

/-- tuple(e for x in ..) -/
def RcT (Q : VK) (W Fin : List V → Hp → Prop) (Out : List V → V → Hp → Prop) : Prop := Out = (fun ys y H => W (ys ++ [y]) H) ∧ Fin = fun ys H => ∀ p, H p = none → Q (.ref p) (upd H p (.tup ys))
def tTupG (P : Addr) (wi : TI) (g : TG) (te : TE) (js : List (Option Nat)) : TE := fun σ H Q => wi σ H fun J H1 => TabG H1 P ∧ ∀ H2, Tabbed P H1 H2 → ∃ W Fin Out, W [] H2 ∧ GStep J g te (capt σ js) W Fin Out ∧ RcT Q W Fin Out
theorem tup_by {J : It} {g : TG} {te : TE} {σg : L2.St} {Q : VK} {H2 : Hp} (W : List V → Hp → Prop) (w0 : W [] H2) (step : GStep J g te σg W (fun ys H => ∀ p, H p = none → Q (.ref p) (upd H p (.tup ys))) (fun ys y H => W (ys ++ [y]) H)) :
    ∃ W Fin Out, W [] H2 ∧ GStep J g te σg W Fin Out ∧ RcT Q W Fin Out := ⟨W, _, _, w0, step, rfl, rfl⟩
section
variable {X : Cx} {k : Nat} {c P : Addr} {N : List Str} {js : List (Option Nat)} {scope : Scope} {elt tg iter : Expr} {gpos pos p : Pos} {wi : TI} {g : TG} {te : TE}
theorem pe_tupG (hr : Room (k + 6) X.A) (TB : TabB X.base X.mg c P) (hcode : X.env.code = .ref c) (ok : GxOk X.N X.env.scope N js scope) (hi : PI X tg iter wi) (hs : ∀ v, genFold iter X.env v = pure v)
    (hg : ∀ A C code bi cl sc H fp pn, Room k (A.deeper (genEnv scope cl C code bi X.env)) → PG (gxc X N (genEnv scope cl C code bi X.env) A sc H fp pn) tg g)
    (he : ∀ A C code bi cl sc H fp pn, Room k (A.deeper (genEnv scope cl C code bi X.env)) → PE (gxc X N (genEnv scope cl C code bi X.env) A sc H fp pn) elt te)
    (hgl : Gl X "tuple") (hmg : X.mg "tuple" = none) (hst : starEach [.GeneratorExp elt [⟨tg, iter, [], 0⟩] scope gpos] X.env = (false, eval (.GeneratorExp elt [⟨tg, iter, [], 0⟩] scope gpos) X.env) :: starEach [] X.env := by rfl) :
    PE X (.Call (.Name "tuple" p) [.GeneratorExp elt [⟨tg, iter, [], 0⟩] scope gpos] [] pos) (tTupG P wi g te js) := by
  refine ⟨fun pins s σ H Q I hq => ?_⟩
  refine wpAny_Call_Name_kw (ld_blt I hgl hmg (by decide +kernel : bootBuiltins "tuple" = some (.type "tuple")) ?_ (by decide) (by decide))
  refine PyProof.Rows.callWith_type1 ?_ hst rfl
  rw [hst]
  show wpAny _ _ (spliced ((false, eval (.GeneratorExp elt [⟨tg, iter, [], 0⟩] scope gpos) X.env) :: backTo pos (starEach [] X.env))) _ _ s
  refine Calls.spliced_cons (gx_eval (k := k) (Rc := fun _ => RcT Q) (hr.mono (by omega)) TB hcode ok hi hs hg he I hq fun H2 sc fp W Fin Out u s' I2 hex hrc hG => ?_)
  obtain ⟨rfl, rfl⟩ := hrc
  refine Calls.spliced_nil ?_
  refine callTupG hr I2.ok.frames hG (fun ys y H h => h) fun S s2 acc H' ys q1 q2 q3 q4 q5 => ?_
  have I3 := q4.inv I2 hex
  have hf : H' s2.heap.objs.size = none := I3.hok.fresh (Nat.le_refl _)
  refine ⟨.ref s2.heap.objs.size, upd H' s2.heap.objs.size (.tup ys), I3.laid (t' := s2.toks) (fun b u e => Heap.get?_push_of_some _ e) (Nat.le_refl _) ?_, rfl, q5 _ hf⟩
  exact ⟨q3, acc, q2, ⟨_, Heap.get?_push_size _ rfl, rfl, _, rfl⟩⟩
end

/-! ### all(e for x in ..) -/
def CrA (_ : List V) (_ : Heap) : Prop := True
theorem consA : Cons [] CrA := ⟨fun _ _ _ b hb => (by cases hb), fun _ _ _ _ _ => trivial⟩
def OutA (W : List V → Hp → Prop) (Q : VK) : List V → V → Hp → Prop := fun ys y H => ∃ b, y = .bl b ∧ if b = true then W (ys ++ [y]) H else Q (.bl false) H
section
variable {X : Cx} {H1 : Hp} {sc : Shared} {fp : List Addr} {W Fin : List V → Hp → Prop}
theorem drainA {A : Around} {R : Result → Shared → Prop} {a : Addr} {g : Nat} {QV : VK} (hh : A.handled = none) (hd : A.depth < recursionLimit)
    (hend : ∀ s' H' ys, Abs X H1 sc fp [] H' s' → Fin ys H' → R (.ok (.ret (.bool true))) s') (hno : ∀ s' H', Abs X H1 sc fp [] H' s' → QV (.bl false) H' → R (.ok (.ret (.bool false))) s') :
    ∀ (m : Nat) (s : Shared), s.heap.IsGen a g → s.heap.NoLimit → (∃ gs, s.gens[g]? = some gs ∧ gs.Goes (model X.prog X.w) A.in1.in1 (RG X H1 sc fp [] CrA Fin) (YG X H1 sc fp [] CrA W (OutA W QV) a g) m (.send .none) (s.setGen g .running)) →
      codeAny (model X.prog X.w) A (.builtin "all.loop" ⟨[.ref a], []⟩) R s := by
  have fin : ∀ (s₁ : Shared), (∃ (ys : List V) (H : Hp), ys.length ≤ sizeLine ∧ Fin ys H ∧ CrA ys s₁.heap ∧ Abs X H1 sc fp [] H s₁) → ∀ h' : Heap, (∀ b o, s₁.heap.get? b = some o → h'.get? b = some o) → R (.ok (.ret (.bool true))) { s₁.setGen g .finished with heap := h' } := fun s₁ hp h' hk => by
    obtain ⟨ys, H', hl, hf, _, q1, q2, q3, q4, q5⟩ := hp
    exact hend _ H' ys ⟨q1, allBare_setGen q2 rfl, q3.trans (Un.kept hk), q4.kept hk, q5⟩ hf
  have no : ∀ (s₁ : Shared) (gs' : GenState) (H' : Hp), gs'.bare = true → Abs X H1 sc fp [] H' s₁ → QV (.bl false) H' → R (.ok (.ret (.bool false))) (s₁.setGen g gs') := fun s₁ gs' H' hb hp hq =>
    hno _ H' ⟨hp.1, allBare_setGen hp.2.1 hb, hp.2.2.1, hp.2.2.2.1, hp.2.2.2.2⟩ hq
  intro m
  induction m with
  | zero =>
    intro s hg hl ⟨gs, hgs, hgo⟩
    refine codeAny_builtin F.entry_all_loop ?_
    rw [Around.under_plainId F.plain_all_loop _]
    show wpAny _ A.in1 (pyNext (.ref a) >>= _) _ _ s
    refine wpAny_bind (wpAny_pyNext_genexpQ (A := A.in1) (P := fun n s₀ s₁ => ∃ (ys : List V) (H : Hp), ys.length ≤ sizeLine ∧ Fin ys H ∧ CrA ys s₁.heap ∧ Abs X H1 sc fp [] H s₁) hh hl hd hg hgs hgo (fun v s₁ gs' hb hv => ?_) fun s₁ hp h' hk => ?_)
    · obtain ⟨ys, y, H', hn, rv, ⟨bb, rfl, ho⟩, _, hab, _, _, hk⟩ := hv
      obtain rfl : v = .bool bb := rv
      refine wpAny_bind (wpAny_holding (wpAny_truthy_bool ?_))
      refine wpAny_bind (wpAny_letGo ?_)
      cases bb with
      | true => exact (hk s₁ ho trivial hab.1 hab.2.1 fun b o _ e => e).elim
      | false =>
        simp only [Bool.false_eq_true, if_false]
        exact wpAny_bind (wpAny_rule (wpAny_pure (no s₁ gs' H' hb hab ho)))
    · exact wpAny_bind (wpAny_rule (wpAny_pure (fin s₁ hp h' hk)))
  | succ m ih =>
    intro s hg hl ⟨gs, hgs, hgo⟩
    have hgl : g < s.gens.size := (Array.getElem?_eq_some_iff.mp hgs).1
    refine codeAny_builtin F.entry_all_loop ?_
    rw [Around.under_plainId F.plain_all_loop _]
    show wpAny _ A.in1 (pyNext (.ref a) >>= _) _ _ s
    refine wpAny_bind (wpAny_gsz (n := g + 1) hgl (wpAny_pyNext_genexpQ (A := A.in1) (P := fun n s₀ s₁ => ∃ (ys : List V) (H : Hp), ys.length ≤ sizeLine ∧ Fin ys H ∧ CrA ys s₁.heap ∧ Abs X H1 sc fp [] H s₁) hh hl hd hg hgs hgo (fun v s₁ gs' hb hv => ?_) fun s₁ hp h' hk => ?_))
    · intro hsz
      obtain ⟨ys, y, H', hn, rv, ⟨bb, rfl, ho⟩, _, hab, hl1, hg1, hk⟩ := hv
      obtain rfl : v = .bool bb := rv
      refine wpAny_bind (wpAny_holding (wpAny_truthy_bool ?_))
      refine wpAny_bind (wpAny_letGo ?_)
      have hsz1 : g < s₁.gens.size := by
        have q : (s₁.setGen g gs').gens.size = s₁.gens.size := setGen_size _ _ _
        have hsz' : g + 1 ≤ (s₁.setGen g gs').gens.size := hsz
        omega
      cases bb with
      | true =>
        simp only [if_true]
        refine wpAny_pure ⟨plainId_quiet F.plain_all_loop _, ih _ hg1 hl1 ⟨gs', setGen_at hsz1, ?_⟩⟩
        exact hk ((s₁.setGen g gs').setGen g .running) ho trivial hab.1 (allBare_setGen (allBare_setGen hab.2.1 hb) rfl) fun b o _ e => e
      | false =>
        simp only [Bool.false_eq_true, if_false]
        exact wpAny_bind (wpAny_rule (wpAny_pure (no s₁ gs' H' hb hab ho)))
    · intro _
      exact wpAny_bind (wpAny_rule (wpAny_pure (fin s₁ hp h' hk)))
end
end BT

namespace BT
open PySem PySem.Spec PyProof.Rows L2 GenW
section
variable {X : Cx} {H1 : Hp} {sc : Shared} {fp : List Addr} {W Fin : List V → Hp → Prop}
theorem callAllG {k : Nat} {A : Around} {u : Value} {s : Shared} {Q : Value → Shared → Prop} {QV : VK} {E : Value → Shared → Prop} (hr : Room (k + 4) A) (hfr : A.frames = some X.stack) (h : GM X k H1 sc fp W Fin (OutA W QV) u s)
    (hend : ∀ s' H' ys, Abs X H1 sc fp [] H' s' → Fin ys H' → Q (.bool true) s') (hno : ∀ s' H', Abs X H1 sc fp [] H' s' → QV (.bl false) H' → Q (.bool false) s') :
    wpAny (model X.prog X.w) A (call (.builtin "all") [u]) Q E s := by
  obtain ⟨a, g, c, rfl, ha1, ha2, hg, hgs, hos, hb, hl, hkp, w0, wake⟩ := h
  refine call_function_tree F.kind_all F.plain_all F.entry_all (F.args_all1 _) ?_
  unfold Builtin.«all»
  refine wpAny_bind (m := oneArg "all" _) (wpAny_pure (wpAny_bind (wpAny_pyIter_gen hg ?_)))
  refine wpAny_pure ⟨plainId_quiet F.plain_all_loop _, drainA (X := X) (H1 := H1) (sc := sc) (fp := fp) (W := W) (Fin := Fin) (A := A) (a := a) (g := g) (QV := QV) hr.hd (by have := hr.dp; omega) hend hno sizeLine _ hg hl ⟨_, hgs, rfl, ?_⟩⟩
  refine wake _ _ _ _ ⟨hr.hd, ?_, ?_⟩ hfr consA (fun b hb => by cases hb) (fun b o e => e) trivial hos (allBare_setGen hb rfl)
  · have q := hr.dp
    show A.depth + 3 * (k + 1) + 5 < _
    omega
  · have q := hr.un
    show A.units + 1 + 1 + 16 * (k + 1) + 200 < _
    omega
end
def RcA (Q : VK) (W Fin : List V → Hp → Prop) (Out : List V → V → Hp → Prop) : Prop := Out = OutA W Q ∧ Fin = fun _ H => Q (.bl true) H
def tAllG (P : Addr) (wi : TI) (g : TG) (te : TE) (js : List (Option Nat)) : TE := fun σ H Q => wi σ H fun J H1 => TabG H1 P ∧ ∀ H2, Tabbed P H1 H2 → ∃ W Fin Out, W [] H2 ∧ GStep J g te (capt σ js) W Fin Out ∧ RcA Q W Fin Out
theorem all_by {J : It} {g : TG} {te : TE} {σg : L2.St} {Q : VK} {H2 : Hp} (W : Nat → Hp → Prop) (w0 : W 0 H2) (step : GStep J g te σg (fun ys => W ys.length) (fun _ H => Q (.bl true) H) (fun ys y H => ∃ b, y = .bl b ∧ if b = true then W (ys.length + 1) H else Q (.bl false) H)) :
    ∃ W Fin Out, W [] H2 ∧ GStep J g te σg W Fin Out ∧ RcA Q W Fin Out := by
  refine ⟨fun ys => W ys.length, _, _, w0, ?_, rfl, rfl⟩
  have e : OutA (fun ys => W ys.length) Q = fun ys y H => ∃ b, y = .bl b ∧ if b = true then W (ys.length + 1) H else Q (.bl false) H := by
    funext ys y H
    have el : (ys ++ [y]).length = ys.length + 1 := by simp
    show (∃ b, y = V.bl b ∧ if b = true then W (ys ++ [y]).length H else Q (V.bl false) H) = _
    rw [el]
  rw [e]
  exact step
section
variable {X : Cx} {k : Nat} {c P : Addr} {N : List Str} {js : List (Option Nat)} {scope : Scope} {elt tg iter : Expr} {gpos pos p : Pos} {wi : TI} {g : TG} {te : TE}
theorem pe_allG (hr : Room (k + 4) X.A) (TB : TabB X.base X.mg c P) (hcode : X.env.code = .ref c) (ok : GxOk X.N X.env.scope N js scope) (hi : PI X tg iter wi) (hs : ∀ v, genFold iter X.env v = pure v)
    (hg : ∀ A C code bi cl sc H fp pn, Room k (A.deeper (genEnv scope cl C code bi X.env)) → PG (gxc X N (genEnv scope cl C code bi X.env) A sc H fp pn) tg g)
    (he : ∀ A C code bi cl sc H fp pn, Room k (A.deeper (genEnv scope cl C code bi X.env)) → PE (gxc X N (genEnv scope cl C code bi X.env) A sc H fp pn) elt te)
    (hgl : Gl X "all") (hmg : X.mg "all" = none) (hst : starEach [.GeneratorExp elt [⟨tg, iter, [], 0⟩] scope gpos] X.env = (false, eval (.GeneratorExp elt [⟨tg, iter, [], 0⟩] scope gpos) X.env) :: starEach [] X.env := by rfl) :
    PE X (.Call (.Name "all" p) [.GeneratorExp elt [⟨tg, iter, [], 0⟩] scope gpos] [] pos) (tAllG P wi g te js) := by
  refine ⟨fun pins s σ H Q I hq => ?_⟩
  refine wpAny_Call_Name_kw (ld_blt I hgl hmg (by decide +kernel : bootBuiltins "all" = some (.builtin "all")) ?_ (by decide) (by decide))
  refine PyProof.Rows.callWith_builtin1 ?_ hst rfl
  rw [hst]
  show wpAny _ _ (spliced ((false, eval (.GeneratorExp elt [⟨tg, iter, [], 0⟩] scope gpos) X.env) :: backTo pos (starEach [] X.env))) _ _ s
  refine Calls.spliced_cons (gx_eval (k := k) (Rc := fun _ => RcA Q) (hr.mono (by omega)) TB hcode ok hi hs hg he I hq fun H2 sc fp W Fin Out u s' I2 hex hrc hG => ?_)
  obtain ⟨rfl, rfl⟩ := hrc
  refine Calls.spliced_nil ?_
  exact callAllG hr I2.ok.frames hG (fun s2 H' ys q4 q5 => ⟨.bl true, H', q4.inv I2 hex, rfl, q5⟩) fun s2 H' q4 q5 => ⟨.bl false, H', q4.inv I2 hex, rfl, q5⟩
end
end BT

namespace BT
open PySem PySem.Spec PyProof.Rows L2 GenW
set_option maxHeartbeats 4000000 in
theorem meets_enumT (l : Addr) (items : Array Value) (n : Nat) (dct : Option Addr) (sl : Array (Option Value)) :
    Meets (Builtin.«enumerate.__new__» ⟨[.type "enumerate", .ref l], []⟩) (fun _ R s => s.heap.get? l = some { cls := .type "tuple", dict := dct, data := .seq items n, slots := sl } ∧
      R (.ok (.ret (.ref (s.heap.push { cls := .type "tuple_iterator", data := .fields #[.ref l, .int 0 0] }).objs.size)))
        { s with heap := (s.heap.push { cls := .type "tuple_iterator", data := .fields #[.ref l, .int 0 0] }).push { cls := .type "enumerate", data := .fields #[.none, .bool false, .ref s.heap.objs.size, rawInt 0, .none, .none] } }) :=
  .of_wp fun prog w A R s h => by
    obtain ⟨hp, g, d, tk, os⟩ := s
    obtain ⟨hl, h⟩ := h
    have hsub := sub_enumerate
    have hL : Heap.IsTuple (Shared.heap ⟨hp, g, d, tk, os⟩) l items := ⟨_, hl, rfl, n, rfl⟩
    wp_walk using AutoSeq1.wpAny_loadPart' hl
    refine wpAny_stack_any fun st => wpAny_pure ?_
    split
    · rename_i c _ _ _ _ _
      cases (c == Value.type "enumerate") <;> (wp_walk using AutoSeq1.wpAny_loadPart' hl, wpAny_pyIter_tuple hL; exact ⟨_, rfl, h⟩)
    · wp_walk using AutoSeq1.wpAny_loadPart' hl, wpAny_pyIter_tuple hL
      exact ⟨_, rfl, h⟩
section
variable {prog : Program} {w : World} {A : Around} {E : Value → Shared → Prop} {s : Shared}
theorem callEnumT {l : Addr} {items : Array Value} {Q : Value → Shared → Prop} (hL : s.heap.IsTuple l items)
    (h : ∀ h', IsEnum h' (s.heap.objs.size + 1) s.heap.objs.size 0 .none → h'.IsTupleIter s.heap.objs.size l 0 → h'.objs.size = s.heap.objs.size + 2 →
      (∀ b o, s.heap.get? b = some o → h'.get? b = some o) → Q (.ref (s.heap.objs.size + 1)) { s with heap := h' }) :
    wpAny (model prog w) A (call (.type "enumerate") [.ref l]) Q E s := by
  obtain ⟨⟨c, dct, dt, sl⟩, hl, hc, n, hd⟩ := hL
  replace hc : c = .type "tuple" := hc
  replace hd : dt = .seq items n := hd
  subst hc hd
  refine callType_new F.called_enumerate (by decide) (F.typeCall_enumerate_1 _) (F.newCall_enumerate_1 _) (fun obj => F.args_object_init_2 obj _) F.entry_enumerate_new (meets_enumT l items n dct sl) ⟨hl, ?_⟩
  have hz : (s.heap.push { cls := .type "tuple_iterator", data := .fields #[.ref l, .int 0 0] }).objs.size = s.heap.objs.size + 1 := Heap.size_push ..
  show _ ∧ _
  rw [hz]
  have he : IsEnum ((s.heap.push { cls := .type "tuple_iterator", data := .fields #[.ref l, .int 0 0] }).push
      { cls := .type "enumerate", data := .fields #[.none, .bool false, .ref s.heap.objs.size, rawInt 0, .none, .none] }) (s.heap.objs.size + 1) s.heap.objs.size 0 .none := by
    have q := Heap.get?_push_size (s.heap.push { cls := .type "tuple_iterator", data := .fields #[.ref l, .int 0 0] })
      (o := { cls := .type "enumerate", data := .fields #[.none, .bool false, .ref s.heap.objs.size, rawInt 0, .none, .none] }) rfl
    rw [hz] at q
    exact q
  exact ⟨⟨_, he, rfl⟩, h _ he ⟨_, Heap.get?_push_of_some _ (Heap.get?_push_size _ rfl), rfl, rfl⟩ (by rw [Heap.size_push, hz]) fun b o x => Heap.get?_push_of_some _ (Heap.get?_push_of_some _ x)⟩
end
/-- enumerate(tuple) -/
def IteT (K : PySem.W.Frag) (a : Addr) : It :=
  ⟨fun i H => ∃ (xs : List V) (x : V), SqT K H a xs ∧ xs[i]? = some x, fun i H v H' => ∃ T x, v = .ref T ∧ H T = none ∧ H' = upd H T (.tup [.int (i : Nat), x]) ∧ ∀ xs, SqT K H a xs → xs[i]? = some x, fun i H => ∃ xs : List V, SqT K H a xs ∧ xs.length ≤ i⟩
theorem turn_enumT {P : Program} {w : World} {K : PySem.W.Frag} {elts : List Expr} {kk : Nat} {tpos : Pos} (a e it : Addr) :
    Turn P w K (.Tuple elts kk tpos) (IteT K a) [e, it] e (fun i h => (∃ old, IsEnum h e it ((i : Nat) : Int) old) ∧ h.IsTupleIter it a i ∧ e ≠ it) where
  mem := List.mem_cons_self
  obj := fun i h st b hb => by
    obtain ⟨⟨old, he⟩, ⟨o, ho, hc, hd⟩, _⟩ := st
    rcases List.mem_cons.mp hb with z | z
    · rw [z]
      exact ⟨_, he, fun v q => nomatch q⟩
    · rw [List.mem_singleton.mp z]
      exact ⟨o, ho, fun v q => by rw [hd] at q; cases q⟩
  keep := fun i h h' st k => by
    obtain ⟨⟨old, he⟩, hi, hne⟩ := st
    exact ⟨⟨old, k e List.mem_cons_self _ he⟩, hi.at fun o q => k it (List.mem_cons_of_mem _ (List.mem_singleton.mpr rfl)) o q, hne⟩
  item := by
    intro X hP hw hK hc i pins s σ H E I hf st hg
    subst hP hw hK
    obtain ⟨⟨old, he⟩, hit, hne⟩ := st
    obtain ⟨xs, x, hq, hx⟩ := hg
    obtain ⟨its, rv, p, hz⟩ := I.tuple hq
    obtain ⟨u, hu, ru⟩ := rv.get hx
    have hel : e < s.heap.objs.size := Heap.lt_size he
    obtain ⟨oi, hoi, hoic, hoid⟩ := id hit
    have hil : it < s.heap.objs.size := Heap.lt_size hoi
    obtain ⟨oa, hoa, hoac, _, hoad⟩ := (show s.heap.IsTuple a its.toArray from p)
    have nai : a ≠ it := fun z => by
      rw [z, hoi] at hoa
      cases hoa
      rw [hoad] at hoid
      cases hoid
    have nae : e ≠ a := fun z => by
      have q : s.heap.get? e = some _ := he
      rw [z, hoa] at q
      cases q
      exact absurd (show Value.type "enumerate" = Value.type "tuple" from hoac) (by decide)
    have hlen : i < its.toArray.size := by
      rw [List.size_toArray]
      exact (List.getElem?_eq_some_iff.mp hu).1
    refine wpAny_pyNext_enum_itemD (Draws.tuple (A := X.A.in1) (I.ok.hd hc) it a nai its.toArray) he ⟨hit, p⟩ hlen hne (fun z => ?_) fun v h' tk hv ho hst' hT hsz hk => ?_
    · rcases List.mem_cons.mp z with z | z
      · exact hne z
      · exact nae (List.mem_singleton.mp z)
    obtain ⟨hit', _⟩ := hst'
    have ev : v = u := by
      have q : its.toArray[i]? = some v := hv
      rw [List.getElem?_toArray, hu] at q
      exact (Option.some.inj q).symm
    subst ev
    refine ⟨_, rfl, wpAny_letOwnedTupleGo_enum (s := { s with heap := h', toks := tk + 1 }) ho fun h'' he' sb => ?_⟩
    have hT2 : h''.get? s.heap.objs.size = some { cls := .type "tuple", data := .seq #[.int i tk, v] } := (sb.2 _ (Nat.ne_of_gt hel)).trans hT
    have new : ObjOk X.prog X.w (upd H s.heap.objs.size (.tup [.int (i : Nat), x])) h'' s.heap.objs.size (.tup [.int (i : Nat), x]) :=
      ⟨by show 2 ≤ sizeLine; decide, [.int i tk, v], .cons ⟨_, rfl⟩ (.cons ru .nil), ⟨_, hT2, rfl, _, rfl⟩⟩
    have I1 : Inv X pins σ (upd H s.heap.objs.size (.tup [.int (i : Nat), x])) { s with heap := h'', toks := tk + 1 } :=
      I.turnedNew (ch := [e, it]) (fun b ob hb q => (sb.2 b (fun z => hb (by simp [z]))).trans (hk b ob (fun z => hb (by simp [z])) (fun z => hb (by simp [z])) q)) hf (Nat.le_refl _) new
    refine ⟨.ref s.heap.objs.size, _, I1, rfl, ⟨_, x, rfl, I.hok.fresh (Nat.le_refl _), rfl, fun ys hy => by rw [I.tuple_inj hy hq]; exact hx⟩, ⟨⟨v, ?_⟩, hit'.at fun o q => (sb.2 it (Ne.symm hne)).trans q, hne⟩, fun b hb => ?_⟩
    · have e1 : ((i + 1 : Nat) : Int) = (i : Int) + 1 := by omega
      rw [e1]
      exact he'
    · have hb' : b < s.heap.objs.size := by
        rcases List.mem_cons.mp hb with z | z
        · rw [z]; exact hel
        · rw [List.mem_singleton.mp z]; exact hil
      rw [upd_ne (Nat.ne_of_lt hb')]
      exact (hf b hb).1
  done := by
    intro X hP hw hK hc i pins s σ H E I hf st hg
    subst hP hw hK
    obtain ⟨⟨old, he⟩, hit, hne⟩ := st
    obtain ⟨xs, hq, hx⟩ := hg
    obtain ⟨its, rv, p, hz⟩ := I.tuple hq
    obtain ⟨f0, f1, f2, f3, f4, f5⟩ := hf it (List.mem_cons_of_mem _ (List.mem_singleton.mpr rfl))
    have hl := rv.length
    have hno : its.toArray[i]? = none := by
      rw [List.getElem?_toArray]
      exact List.getElem?_eq_none_iff.mpr (by omega)
    have D0 : Draws X.prog X.w X.A.in1 it [it, a] 0 (fun _ _ => False) (fun _ h => h.IsTupleIter it a i ∧ h.IsTuple a its.toArray) :=
      { live := fun _ _ st => let ⟨o, ho, _⟩ := st.1; ⟨o, ho⟩
        frame := fun _ _ _ st hk => ⟨st.1.at fun o e => hk it List.mem_cons_self o e, st.2.at fun o e => hk a (List.mem_cons_of_mem _ List.mem_cons_self) o e⟩
        item := fun j s Q E hj => absurd hj (Nat.not_lt_zero _)
        done := fun s Q E st hE => wpAny_nextOf_tuple_end (I.ok.hd hc) st.1 st.2 hno hE }
    exact wpAny_pyNext_enum_endD D0 he ⟨hit, p⟩ fun h' eb => ⟨rfl, I.turned (t' := s.toks) (fun b o hb q => eb b o hb q) f0 f1 f3 f4 f5⟩
  self := fun A i s Q E st h => let ⟨⟨_, he⟩, _⟩ := st; wpAny_pyIter_enum he h
def iEnumT (K : PySem.W.Frag) (ta : TA) : TI := fun σ H R => ta σ H fun vs H1 => ∃ a xs, vs = [.ref a] ∧ SqT K H1 a xs ∧ R (IteT K a) H1
theorem pi_enumT {X : Cx} {e : Expr} {ta : TA} {p pos tpos : Pos} {elts : List Expr} {kk : Nat} (hg : Gl X "enumerate") (hm : X.mg "enumerate" = none) (ha : PA X [e] ta) (hs : starEach [e] X.env = [(false, eval e X.env)] := by rfl) :
    PI X (.Tuple elts kk tpos) (.Call (.Name "enumerate" p) [e] [] pos) (iEnumT X.K ta) := by
  refine ⟨fun pins s σ H R I h => ?_⟩
  refine Call_ (ld_blt I hg hm boot_enumerate (PyProof.Rows.callWith_type1 (thn (ha.run pos pins s σ H _ I h) fun us s1 ⟨vs, H1, I1, r1, q1⟩ => ?_) hs rfl))
  obtain ⟨a, xs, ex, hq, q⟩ := q1
  subst ex
  obtain ⟨u, rfl⟩ : ∃ u, us = [u] := by
    cases r1 with
    | cons r rr => cases rr; exact ⟨_, rfl⟩
  obtain rfl : u = Value.ref a := by
    cases r1 with
    | cons r rr => exact r
  obtain ⟨its, rv, p', hz⟩ := I1.tuple hq
  refine callEnumT p' fun h' he hit hsz hk => wpAny_pyIter_enum he ?_
  refine ⟨s1.heap.objs.size + 1, [s1.heap.objs.size + 1, s1.heap.objs.size], _, _, H1, rfl, I1.kept (t' := s1.toks) hk, turn_enumT a (s1.heap.objs.size + 1) s1.heap.objs.size, ⟨⟨.none, he⟩, hit, Nat.succ_ne_self _⟩, fun b hb => ?_, q⟩
  have hle : s1.heap.objs.size ≤ b := by
    rcases List.mem_cons.mp hb with z | z
    · rw [z]
      exact Nat.le_add_right _ _
    · rw [List.mem_singleton.mp z]
      exact Nat.le_refl _
  exact I1.fpOk hle (I1.hok.fresh hle)
end BT

namespace BT
open PySem PySem.Spec PyProof.Rows L2 GenW
/-- the end, with tables of code objects of some defs -/
theorem walk_tabs {l : PySem.W.OpenLaw} {n k : Nat} {q : Program} {loose : List Str} {XP : (Str → Option Value) → Heap → Prop} {YP : World → Heap → Prop} {d : DefRec} {K : Params → PySem.W.Frag} {CX : World → CXT} {x : Str}
    (hn : l.most = some n) (hn2 : n ≤ sizeLine) (hdf : d.params.defaults = []) (hr : Room k callerA) (hY : ∀ (w : World) (h : Heap), YP w h → (K w.params).In h)
    (F : ∀ (w : World) (mg : Str → Option Value) (fa : Addr) (h : Heap), YP w h → (K w.params).In h → h.Ns mainGlobals mg → mg d.name = some (.ref fa) →
      (∀ (y : Str) (c P : Addr), ((recsOf q).find? fun e => e.name == y).isSome = true → PySem.W.tabIn (K w.params) y = some (c, P) → PySem.W.CodeHd h c P ∧ h.get? P = some { cls := .none, data := .fields #[] }) → LamX.LawAtS l w (K w.params) (CX w) k n x mg fa h)
    (hCX : ∀ (w : World) (H : Hp) (s : Shared) (e : Value) (s' : Shared), CX w [] H s (fun _ _ _ => False) e s' → False) :
    PySem.W.WalkO q loose XP YP l.row.toRowW d [] (fun f vs => PySem.call f vs) := by
  refine Att.attach_callB hn hdf fun w s₀ s₁ mg mb fa o pm cd doc a vs ns G Y ho hd hcd hmg hobj hints hlen hbits hg => ?_
  have KX := hY w _ Y
  have tabs : ∀ (y : Str) (c P : Addr), ((recsOf q).find? fun e => e.name == y).isSome = true → PySem.W.tabIn (K w.params) y = some (c, P) → PySem.W.CodeHd s₁.heap c P ∧ s₁.heap.get? P = some { cls := .none, data := .fields #[] } := fun y c P h1 h2 => by
    obtain ⟨e, he⟩ := Option.isSome_iff_exists.mp h1
    exact PySem.W.tab_of G.T KX he h2
  obtain ⟨fd, cs, sp, hT, nT, C, hb, hsp, hF⟩ := F w mg fa _ Y KX G.T.g hmg tabs
  exact LamX.law_callTs KX G.T.g G.T.b G.T.builtins G.T.nolimit hg hT nT C G.T.bmain hobj hints (Nat.le_trans hlen hn2) hr hF hb (fun H hH hS => hsp H a ns hlen hbits hH hS) fun H e s' => hCX w H s₁ e s'
/-- a def whose code object is known -/
theorem Fun.okC {P : Program} {w : World} {K : PySem.W.Frag} {mg : Str → Option Value} {base : Heap} {x qual : Str} {st : Stmt} {f c : Addr} {fd : FuncData} {N ps : List Str} {k : Nat} {sp : Sp} (F : Fun K x qual st f fd) (hc : fd.code = .ref c) (S : FnScope N ps (defScope st)) (len : ∀ vs H Q E, sp vs H Q E → vs.length = ps.length)
    (hbody : ∀ (A : Around) (outer : List Env) (s : Shared) (H : Hp) (vs : List V) (Q : VK) (E : XK), Room k (A.deeper (envOfC qual (defScope st) s.heap.objs.size f (.ref c))) → sp vs H Q E →
      ∃ t, PSs (cxOf CX0 P w K mg base N qual (defScope st) f (.ref c) A outer s H E).nox (defBody st) t ∧ t { nx := fun _ H' => Q .non H', rt := Q } (start N vs) H) : FnOk P w K mg base CX0 (k + 1) f fd ps sp := by
  obtain ⟨oc, od, kV, doc, pm, an, cdv, ct, osl, rfl, lk, hcd⟩ := F.ex
  have e : cdv = .ref c := hc
  subst e
  refine fn_of lk hcd S len fun A outer s H vs Q E hr hsp => ?_
  obtain ⟨t, h, q⟩ := hbody A outer s H vs Q E hr hsp
  exact ⟨t, h.nox, q⟩
/-- a def of the text, as it stands behind the top -/
structure D1 (K : PySem.W.Frag) (mg : Str → Option Value) (x : Str) (st : Stmt) (ps : List Str) where
  f : Addr
  fd : FuncData
  F : Fun K x x st f fd
  g : mg x = some (.ref f)
  b : Binds K fd ps []
def d1_mk {K : PySem.W.Frag} {h : Heap} {mg : Str → Option Value} {x : Str} {st : Stmt} {ps : List Str} {f : Addr} {oc : Value} {od an : Option Addr} {osl : Array (Option Value)} {kV doc pm cdv ct : Value} (X : K.In h) (G : h.Ns mainGlobals mg)
    (a : PySem.W.nsIn K mainGlobals x = some (some (.ref f))) (l : K.lookup f = some ⟨oc, od, .func (PySem.W.fnOf x x (defArgs st) (defBody st) (defScope st) .none kV doc pm an cdv ct), osl⟩) (c : PySem.W.codeIn K cdv x = true) (k : PySem.W.keepIn K (.ref f) = true)
    (hb : ∀ (kV doc pm : Value) (an : Option Addr) (cdv ct : Value) (us : List Value), us.length = ps.length → bindArgs (PySem.W.fnOf x x (defArgs st) (defBody st) (defScope st) .none kV doc pm an cdv ct) ⟨us, []⟩ = pure (ps.zip us)) : D1 K mg x st ps :=
  ⟨f, _, fun_mk l c k, PySem.W.mg_of X G a, (fun_mk l c k).binds hb⟩
theorem toB {base : Heap} {mg : Str → Option Value} {c P : Addr} (t : LamX.TabB base mg c P) : TabB base mg c P := ⟨t.code, t.bm, t.gP⟩
theorem tabG0 {H : Hp} {P : Addr} (h : H P = some (.tbl #[])) : TabG H P := ⟨#[], h, trivial⟩
/-! ### heaps: all but M is kept -/
def Kp (M : List Addr) (H H' : Hp) : Prop := ∀ b o, b ∉ M → H b = some o → H' b = some o
theorem Kp.refl {M : List Addr} (H : Hp) : Kp M H H := fun _ _ _ h => h
theorem Kp.trans {M : List Addr} {a b c : Hp} (x : Kp M a b) (y : Kp M b c) : Kp M a c := fun p o h e => y p o h (x p o h e)
theorem Kp.mono {M M' : List Addr} {a b : Hp} (x : Kp M a b) (h : ∀ p ∈ M, p ∈ M') : Kp M' a b := fun p o hp e => x p o (fun z => hp (h p z)) e
theorem Kp.new {M : List Addr} {H : Hp} {p : Addr} {o : HO} (h : H p = none) : Kp M H (upd H p o) := fun a u _ e => by
  rw [upd_ne (ne_of_none e h)]
  exact e
theorem Kp.wr {M : List Addr} {H H' : Hp} {p : Addr} {o : HO} (x : Kp M H H') (h : p ∈ M) : Kp M H (upd H' p o) := fun a u ha e => by
  rw [upd_ne (fun z => ha (by rw [z]; exact h))]
  exact x a u ha e
/-- what H does not know may change -/
theorem Kp.mut {M : List Addr} {H H' : Hp} {p : Addr} {o : HO} (x : Kp M H H') (h : H p = none) : Kp M H (upd H' p o) := fun a u ha e => by
  rw [upd_ne (ne_of_none e h)]
  exact x a u ha e
theorem Kp.back {H H' : Hp} {p : Addr} (x : Kp [] H H') (h : H' p = none) : H p = none := by
  cases q : H p with
  | none => rfl
  | some o =>
    rw [x p o (fun z => by cases z) q] at h
    cases h
theorem Kp.backM {M : List Addr} {H H' : Hp} {p : Addr} (x : Kp M H H') (hm : p ∉ M) (h : H' p = none) : H p = none := by
  cases q : H p with
  | none => rfl
  | some o =>
    rw [x p o hm q] at h
    cases h
theorem Kp.l {K : PySem.W.Frag} {M : List Addr} {H H' : Hp} {a : Addr} {xs : List V} (x : Kp M H H') (ha : a ∉ M) (h : SqL K H a xs) : SqL K H' a xs := by
  rcases h with (h | ⟨o, h⟩) | h
  · exact .inl (.inl (x a _ ha h))
  · exact .inl (.inr ⟨o, x a _ ha h⟩)
  · exact .inr h
theorem Kp.t {K : PySem.W.Frag} {M : List Addr} {H H' : Hp} {a : Addr} {xs : List V} (x : Kp M H H') (ha : a ∉ M) (h : SqT K H a xs) : SqT K H' a xs := by
  rcases h with (h | ⟨o, h⟩) | h
  · exact .inl (.inl (x a _ ha h))
  · exact .inl (.inr ⟨o, x a _ ha h⟩)
  · exact .inr h
theorem lOf {K : PySem.W.Frag} {H : Hp} {a : Addr} {xs : List V} (h : H a = some (.lst xs)) : SqL K H a xs := .inl (.inl h)
theorem tOf {K : PySem.W.Frag} {H : Hp} {a : Addr} {xs : List V} (h : H a = some (.tup xs)) : SqT K H a xs := .inl (.inl h)
/-! ### data -/
theorem dpAll_ints {K : PySem.W.Frag} {H : Hp} : ∀ ns : List Int, DpAll K H (ns.map V.int) (ns.map PyData.int)
  | [] => .nil
  | n :: r => .cons (.int n) (dpAll_ints r)
theorem eqv_nil : ∀ ns : List Int, PyData.eqv (.list (ns.map PyData.int)) (.list []) = ns.isEmpty
  | [] => rfl
  | n :: r => rfl
theorem shaped_ints (ns : List Int) : SeqAt.shaped (.list (ns.map PyData.int)) = true := by
  induction ns with
  | nil => rfl
  | cons n r ih => exact ih
/-! ### the deck that is a dict -/
abbrev dkv (c : Addr) (sd a : Int) : List (Key × V) := [(.inr "cells", .ref c), (.inr "seed", .int sd), (.inr "at", .int a)]
theorem kne1 : ¬ (Sum.inr (Str.ofString "cells") : Key) = Sum.inr (Str.ofString "seed") := by decide +kernel
theorem kne2 : ¬ (Sum.inr (Str.ofString "cells") : Key) = Sum.inr (Str.ofString "at") := by decide +kernel
theorem kne3 : ¬ (Sum.inr (Str.ofString "seed") : Key) = Sum.inr (Str.ofString "at") := by decide +kernel
theorem dk_cells {c : Addr} {sd a : Int} : valV (dkv c sd a) (.inr "cells") = some (.ref c) := valV_pos rfl
theorem dk_seed {c : Addr} {sd a : Int} : valV (dkv c sd a) (.inr "seed") = some (.int sd) := (valV_neg kne1).trans (valV_pos rfl)
theorem dk_at {c : Addr} {sd a : Int} : valV (dkv c sd a) (.inr "at") = some (.int a) := (valV_neg kne2).trans ((valV_neg kne3).trans (valV_pos rfl))
theorem dk_put {c : Addr} {sd a b : Int} : putK (dkv c sd a) (.inr "at") (.int b) = dkv c sd b := by
  unfold putK dkv
  rw [if_pos (by simp)]
  have e1 : ¬ Str.ofString "cells" = Str.ofString "at" := by decide +kernel
  have e2 : ¬ Str.ofString "seed" = Str.ofString "at" := by decide +kernel
  simp [e1, e2]
def Dk (d c : Addr) (H : Hp) : Prop := ∃ (cells : List Int) (sd a : Int), H d = some (.dK (dkv c sd a)) ∧ H c = some (.lst (cells.map V.int)) ∧ cells.length ≤ 63
theorem Dk.ne {d c : Addr} {H : Hp} (h : Dk d c H) : d ≠ c := by
  obtain ⟨_, _, _, h1, h2, _⟩ := h
  exact ne_of h1 h2 (by intro z; cases z)
theorem Dk.kp {d c : Addr} {M : List Addr} {H H' : Hp} (h : Dk d c H) (k : Kp M H H') (hd : d ∉ M) (hc : c ∉ M) : Dk d c H' := by
  obtain ⟨cs, sd, a, h1, h2, h3⟩ := h
  exact ⟨cs, sd, a, k _ _ hd h1, k _ _ hc h2, h3⟩
end BT
namespace BT
open PySem PySem.Spec PyProof.Rows L2 GenW
theorem dgAt {H : Hp} {d c : Addr} {sd a : Int} (h : H d = some (.dK (dkv c sd a))) : DGet H d (.str "at") (some (.int a)) := by
  have z := DGet.k (k := .inr "at") h
  rw [dk_at] at z
  exact z
theorem dgSeed {H : Hp} {d c : Addr} {sd a : Int} (h : H d = some (.dK (dkv c sd a))) : DGet H d (.str "seed") (some (.int sd)) := by
  have z := DGet.k (k := .inr "seed") h
  rw [dk_seed] at z
  exact z
theorem dgCells {H : Hp} {d c : Addr} {sd a : Int} (h : H d = some (.dK (dkv c sd a))) : DGet H d (.str "cells") (some (.ref c)) := by
  have z := DGet.k (k := .inr "cells") h
  rw [dk_cells] at z
  exact z
theorem dpAt {H : Hp} {d c : Addr} {sd a b : Int} (h : H d = some (.dK (dkv c sd a))) : DPut H d (.str "at") (.int b) (upd H d (.dK (dkv c sd b))) := by
  have z := DPut.k (k := .inr "at") (v := .int b) h (by show 3 < sizeLine; decide)
  rw [dk_put] at z
  exact z
theorem kp2 {d c : Addr} {H H' : Hp} (h : ∀ b o, b ≠ d → b ≠ c → H b = some o → H' b = some o) : Kp [d, c] H H' := fun b o hb e => h b o (fun z => hb (by rw [z]; exact List.mem_cons_self)) (fun z => hb (by rw [z]; exact List.mem_cons_of_mem _ (List.mem_singleton.mpr rfl))) e
theorem fmod_lt {x m : Int} (h : 0 < m) : 0 ≤ x.fmod m ∧ x.fmod m < m := by
  rw [Int.fmod_eq_emod_of_nonneg _ (Int.le_of_lt h)]
  exact ⟨Int.emod_nonneg _ (by omega), Int.emod_lt_of_pos _ h⟩
theorem cmulL {i j : Int} (h1 : -(2 ^ 64) < i) (h2 : i < 2 ^ 64) : CMul i j := .inl ⟨h1, h2⟩
theorem cmulR {i j : Int} (h1 : -(2 ^ 64) < j) (h2 : j < 2 ^ 64) : CMul i j := .inr ⟨h1, h2⟩
theorem modm {x m : Int} (h : 0 < m) : 0 ≤ x % m ∧ x % m < m := ⟨Int.emod_nonneg _ (by omega), Int.emod_lt_of_pos _ h⟩
end BT

namespace BT
open PySem PySem.Spec PyProof.Rows L2 GenW
theorem walk_enumT {K : PySem.W.Frag} {a : Addr} {xs : List V} : Walk (IteT K a) xs.length (fun H => SqT K H a xs) (YPair (fun i => some (.int (i : Nat))) (fun i => xs[i]?)) := by
  refine ⟨fun i _ hi q => ⟨xs, xs[i], q, List.getElem?_eq_getElem hi⟩, fun _ q => ⟨xs, q, Nat.le_refl _⟩, fun i H v H' _ q y => ?_⟩
  obtain ⟨T, x, h1, h2, h3, h4⟩ := y
  exact ⟨T, .int (i : Nat), x, h1, h2, h3, rfl, h4 xs q⟩
theorem walk_zipT {K : PySem.W.Frag} {a b : Addr} {xs ys : List V} {n : Nat} (hn : n = min xs.length ys.length) : Walk (RZ.ItzT K a b) n (fun H => SqT K H a xs ∧ SqT K H b ys) (YPair (fun i => xs[i]?) (fun i => ys[i]?)) := by
  subst hn
  refine ⟨fun i _ hi q => ?_, fun _ q => ⟨xs, ys, q.1, q.2, by omega⟩, fun i H v H' _ q y => ?_⟩
  · have h1 : i < xs.length := by omega
    have h2 : i < ys.length := by omega
    exact ⟨xs, ys, xs[i], ys[i], q.1, q.2, List.getElem?_eq_getElem h1, List.getElem?_eq_getElem h2⟩
  · obtain ⟨T, x, z, h1, h2, h3, h4, h5⟩ := y
    exact ⟨T, x, z, h1, h2, h3, h4 xs q.1, h5 ys q.2⟩
section
variable {J : It} {n : Nat} {G : Hp → Prop} {Y : Nat → Hp → V → Hp → Prop}
theorem tup_nx {n : Nat} {ys : List V} {y : V} {H : Hp} {Pv : List V → Hp → Prop} (hn : n < sizeLine) (hlt : ys.length < n) (h : Pv (ys ++ [y]) H) : ys.length < sizeLine ∧ (ys ++ [y]).length ≤ n ∧ Pv (ys ++ [y]) H :=
  ⟨by omega, by rw [List.length_append]; exact hlt, h⟩
theorem tup_it (w : Walk J n G Y) {g : TG} {te : TE} {σg : L2.St} {Q : VK} {H2 : Hp} (Pv : List V → Hp → Prop) (h0 : Pv [] H2) (hG : ∀ ys H, ys.length ≤ n → Pv ys H → G H)
    (hs : ∀ ys x H H', ys.length < n → Pv ys H → Y ys.length H x H' → g x σg H' fun σ2 H3 => Le σg σ2 ∧ te σ2 H3 fun y H4 => ys.length < sizeLine ∧ (ys ++ [y]).length ≤ n ∧ Pv (ys ++ [y]) H4) (hd : ∀ ys H p, ys.length = n → Pv ys H → H p = none → Q (.ref p) (upd H p (.tup ys))) :
    ∃ W Fin Out, W [] H2 ∧ GStep J g te σg W Fin Out ∧ RcT Q W Fin Out := by
  refine tup_by (fun ys H => ys.length ≤ n ∧ Pv ys H) ⟨Nat.zero_le _, h0⟩ fun ys H hW => ?_
  obtain ⟨hl, hp⟩ := hW
  have q := hG ys H hl hp
  by_cases hlt : ys.length < n
  · exact .inr ⟨w.goes _ H hlt q, fun x H' y => hs ys x H H' hlt hp (w.yields _ H x H' hlt q y)⟩
  · have e : ys.length = n := by omega
    exact .inl ⟨by rw [e]; exact w.stops H q, fun p np => hd ys H p e hp np⟩
theorem all_it (w : Walk J n G Y) (hn : n < sizeLine) {g : TG} {te : TE} {σg : L2.St} {Q : VK} {H2 : Hp} (Pv : Nat → Hp → Prop) (h0 : Pv 0 H2) (hG : ∀ i H, i ≤ n → Pv i H → G H)
    (hs : ∀ i x H H', i < n → Pv i H → Y i H x H' → g x σg H' fun σ2 H3 => Le σg σ2 ∧ te σ2 H3 fun y H4 => i < sizeLine ∧ ∃ b, y = .bl b ∧ if b = true then (i + 1 ≤ n ∧ Pv (i + 1) H4) else Q (.bl false) H4) (hd : ∀ H, Pv n H → Q (.bl true) H) :
    ∃ W Fin Out, W [] H2 ∧ GStep J g te σg W Fin Out ∧ RcA Q W Fin Out := by
  refine all_by (fun i H => i ≤ n ∧ Pv i H) ⟨Nat.zero_le _, h0⟩ fun ys H hW => ?_
  obtain ⟨hl, hp⟩ := hW
  have q := hG _ H hl hp
  by_cases hlt : ys.length < n
  · exact .inr ⟨w.goes _ H hlt q, fun x H' y => hs _ x H H' hlt hp (w.yields _ H x H' hlt q y)⟩
  · have e : ys.length = n := by omega
    exact .inl ⟨by rw [e]; exact w.stops H q, hd H (by rw [← e]; exact hp)⟩
end
/-! ### least places -/
def ov : Option Int → V
  | none => .non
  | some n => .int n
theorem ov_inj {a b : Option Int} (h : ov a = ov b) : a = b := by
  cases a <;> cases b <;> simp_all [ov]
def IsL (last : Bool) (row : List (Option Int)) (m k : Nat) : Prop := k < m ∧ ∃ x, row[k]? = some (some x) ∧ ∀ (j : Nat) (y : Int), j < m → row[j]? = some (some y) → x ≤ y ∧ (y = x → if last = true then j ≤ k else k ≤ j)
def LeU (last : Bool) (row : List (Option Int)) (m : Nat) (v : V) : Prop := (v = .non ∧ ∀ (j : Nat) (y : Int), j < m → row[j]? = some (some y) → False) ∨ ∃ k : Nat, v = .int k ∧ IsL last row m k
theorem LeU.uniq {last : Bool} {row : List (Option Int)} {m : Nat} {v v' : V} (h : LeU last row m v) (h' : LeU last row m v') : v = v' := by
  rcases h with ⟨rfl, h⟩ | ⟨k, rfl, hk, x, hx, hh⟩
  · rcases h' with ⟨rfl, h'⟩ | ⟨k', rfl, hk', x', hx', hh'⟩
    · rfl
    · exact (h k' x' hk' hx').elim
  · rcases h' with ⟨rfl, h'⟩ | ⟨k', rfl, hk', x', hx', hh'⟩
    · exact (h' k x hk hx).elim
    · have a1 := hh k' x' hk' hx'
      have a2 := hh' k x hk hx
      have e : x' = x := by omega
      have b1 := a1.2 e
      have b2 := a2.2 e.symm
      have : k = k' := by
        cases last
        · simp at b1 b2; omega
        · simp at b1 b2; omega
      rw [this]
theorem LeU.zero {last : Bool} {row : List (Option Int)} : LeU last row 0 .non := .inl ⟨rfl, fun j y h => absurd h (Nat.not_lt_zero _)⟩
theorem LeU.skip {last : Bool} {row : List (Option Int)} {m : Nat} {v : V} (h : LeU last row m v) (hn : row[m]? = some none) : LeU last row (m + 1) v := by
  rcases h with ⟨rfl, h⟩ | ⟨k, rfl, hk, x, hx, hh⟩
  · refine .inl ⟨rfl, fun j y hj hy => ?_⟩
    by_cases e : j = m
    · subst e; rw [hn] at hy; cases hy
    · exact h j y (by omega) hy
  · refine .inr ⟨k, rfl, by omega, x, hx, fun j y hj hy => ?_⟩
    by_cases e : j = m
    · subst e; rw [hn] at hy; cases hy
    · exact hh j y (by omega) hy
theorem LeU.first {last : Bool} {row : List (Option Int)} {m : Nat} {n : Int} (h : LeU last row m .non) (hn : row[m]? = some (some n)) : LeU last row (m + 1) (.int m) := by
  rcases h with ⟨_, h⟩ | ⟨k, e, _⟩
  · refine .inr ⟨m, rfl, by omega, n, hn, fun j y hj hy => ?_⟩
    by_cases e : j = m
    · subst e; rw [hn] at hy; cases hy
      exact ⟨Int.le_refl _, fun _ => by cases last <;> simp⟩
    · exact (h j y (by omega) hy).elim
  · cases e
theorem LeU.take {last : Bool} {row : List (Option Int)} {m k : Nat} {n x : Int} (h : LeU last row m (.int k)) (hx : row[k]? = some (some x)) (hn : row[m]? = some (some n)) (hc : n < x ∨ (n = x ∧ last = true)) : LeU last row (m + 1) (.int m) := by
  rcases h with ⟨e, _⟩ | ⟨k', e, hk, x', hx', hh⟩
  · cases e
  · have ek : k = k' := by have := V.int.inj e; omega
    subst ek
    rw [hx] at hx'
    cases hx'
    refine .inr ⟨m, rfl, by omega, n, hn, fun j y hj hy => ?_⟩
    by_cases ej : j = m
    · subst ej; rw [hn] at hy; cases hy
      exact ⟨Int.le_refl _, fun _ => by cases last <;> simp⟩
    · have a := hh j y (by omega) hy
      refine ⟨by omega, fun e2 => ?_⟩
      rcases hc with hc | ⟨hc, hl⟩
      · omega
      · rw [hl]; simp; omega
theorem LeU.stay {last : Bool} {row : List (Option Int)} {m k : Nat} {n x : Int} (h : LeU last row m (.int k)) (hx : row[k]? = some (some x)) (hn : row[m]? = some (some n)) (hc : ¬ (n < x ∨ (n = x ∧ last = true))) : LeU last row (m + 1) (.int k) := by
  rcases h with ⟨e, _⟩ | ⟨k', e, hk, x', hx', hh⟩
  · cases e
  · have ek : k = k' := by have := V.int.inj e; omega
    subst ek
    rw [hx] at hx'
    cases hx'
    refine .inr ⟨k, rfl, by omega, x, hx, fun j y hj hy => ?_⟩
    by_cases ej : j = m
    · subst ej; rw [hn] at hy; cases hy
      refine ⟨by omega, fun e2 => ?_⟩
      cases last
      · simp; omega
      · exact (hc (.inr ⟨e2, rfl⟩)).elim
    · exact hh j y (by omega) hy
theorem LeU.at {last : Bool} {row : List (Option Int)} {m : Nat} {v : V} (h : LeU last row m v) (hv : v ≠ .non) : ∃ (k : Nat) (x : Int), v = .int k ∧ k < m ∧ row[k]? = some (some x) := by
  rcases h with ⟨e, _⟩ | ⟨k, e, hk, x, hx, _⟩
  · exact (hv e).elim
  · exact ⟨k, x, e, hk, hx⟩
/-! ### tables -/
def TabAt (H : Hp) (a : Addr) (rows : List (List (Option Int))) : Prop := ∃ ps : List Addr, H a = some (.tup (ps.map V.ref)) ∧ ps.length = rows.length ∧ ∀ (i : Nat) (b : Addr) (row : List (Option Int)), ps[i]? = some b → rows[i]? = some row → H b = some (.tup (row.map ov))
/-- no tuple stands at these -/
def NT (M : List Addr) (H : Hp) : Prop := ∀ m ∈ M, ∀ xs, H m ≠ some (.tup xs)
theorem NT.nil {H : Hp} : NT [] H := fun m hm => by cases hm
theorem NT.ni {M : List Addr} {H : Hp} {a : Addr} {xs : List V} (h : NT M H) (e : H a = some (.tup xs)) : a ∉ M := fun z => h a z xs e
theorem TabAt.kp {H H' : Hp} {a : Addr} {rows : List (List (Option Int))} {M : List Addr} (h : TabAt H a rows) (k : Kp M H H') (n : NT M H) : TabAt H' a rows := by
  obtain ⟨ps, h1, h2, h3⟩ := h
  exact ⟨ps, k _ _ (n.ni h1) h1, h2, fun i b row e1 e2 => k _ _ (n.ni (h3 i b row e1 e2)) (h3 i b row e1 e2)⟩
theorem NT.tab {H : Hp} {P : Addr} (h : TabG H P) : NT [P] H := fun m hm xs z => by
  obtain ⟨ps, hp, _⟩ := h
  rw [List.mem_singleton.mp hm, hp] at z
  cases z
theorem NT.dk {H : Hp} {d c : Addr} (h : Dk d c H) : NT [d, c] H := fun m hm xs z => by
  obtain ⟨_, _, _, h1, h2, _⟩ := h
  rcases List.mem_cons.mp hm with e | e
  · rw [e, h1] at z; cases z
  · rw [List.mem_singleton.mp e, h2] at z; cases z
theorem TabG.kp {H H' : Hp} {P : Addr} {M : List Addr} (h : TabG H P) (k : Kp M H H') (hm : P ∉ M) : TabG H' P := by
  obtain ⟨ps, hp, ht⟩ := h
  exact ⟨ps, k _ _ hm hp, ht⟩
theorem Tabbed.kp {P : Addr} {H H' : Hp} (t : Tabbed P H H') : Kp [P] H H' := fun b o hb e => by
  rw [t.2 b (fun z => hb (by rw [z]; exact List.mem_singleton.mpr rfl))]
  exact e
theorem TabG.nd {H : Hp} {P d c : Addr} (h : TabG H P) (hd : Dk d c H) : P ∉ [d, c] := fun z => by
  obtain ⟨ps, hp, _⟩ := h
  obtain ⟨_, _, _, h1, h2, _⟩ := hd
  rcases List.mem_cons.mp z with e | e
  · rw [e, h1] at hp; cases hp
  · rw [List.mem_singleton.mp e, h2] at hp; cases hp
end BT

namespace BT
open PySem PySem.Spec PyProof.Rows L2 GenW
/-- a comprehension: what stands in its list behind each turn; what it leaves alone is M -/
theorem lc_acc {J : It} {n : Nat} {G : Hp → Prop} {Y : Nat → Hp → V → Hp → Prop} (w : Walk J n G Y) {g : TG} {tt : TT} {te : TE} {vs : List Nat} {σ : L2.St} {H1 : Hp} {D : Addr} {Qd : Hp → Prop} (M : List Addr) (Iv : Hp → Prop) (acc : Nat → List V → Prop) (nD : H1 D = none) (hM : D ∉ M) (hn : n < sizeLine)
    (hacc : ∀ i xs, acc i xs → xs.length ≤ i) (h0 : acc 0 []) (i0 : Iv (upd H1 D (.lst []))) (hG : ∀ H, Iv H → Kp M H1 H → G H)
    (hs : ∀ i x H H' xs, i < n → acc i xs → Iv H → H D = some (.lst xs) → Kp M H1 H → Y i H x H' → g x (wipe σ vs) H' fun σ2 H2 => wipe σ2 vs = wipe σ vs ∧ tt σ2 H2 fun b H3 =>
      if b = true then te σ2 H3 fun y H4 => H4 D = some (.lst xs) ∧ acc (i + 1) (xs ++ [y]) ∧ (∀ o, Iv (upd H4 D o)) ∧ Kp M H1 H4 else (H3 D = some (.lst xs) ∧ acc (i + 1) xs ∧ Iv H3 ∧ Kp M H1 H3))
    (hte : ∀ σ H (R R' : VK), (∀ v H', R v H' → R' v H') → te σ H R → te σ H R') (htt : ∀ σ H (R R' : Bool → Hp → Prop), (∀ v H', R v H' → R' v H') → tt σ H R → tt σ H R') (hg : ∀ x σ H (R R' : L2.St → Hp → Prop), (∀ a b, R a b → R' a b) → g x σ H R → g x σ H R')
    (hd : ∀ H xs, acc n xs → Iv H → H D = some (.lst xs) → Kp M H1 H → Qd H) :
    ∃ W : Nat → Nat → Hp → Prop, (∃ m, W 0 m (upd H1 D (.lst []))) ∧ ∀ i m H, W i m H →
      (J.stop i H ∧ Qd H) ∨ (J.go i H ∧ ∃ Nx : Hp → Prop, (∀ H', Nx H' → ∃ m', m' < m ∧ W (i + 1) m' H') ∧ ∀ x H', J.yld i H x H' → g x (wipe σ vs) H' fun σ2 H2 => wipe σ2 vs = wipe σ vs ∧ tt σ2 H2 fun b H3 =>
        if b = true then te σ2 H3 fun y H4 => ∃ acc, H4 D = some (.lst acc) ∧ acc.length < sizeLine ∧ Nx (upd H4 D (.lst (acc ++ [y]))) else Nx H3) := by
  refine lc_it w (fun i H => ∃ xs, acc i xs ∧ Iv H ∧ H D = some (.lst xs) ∧ Kp M H1 H) ⟨[], h0, i0, upd_same, Kp.new nD⟩ (fun i H hi hp => ?_) (fun i x H H' hi hp hy => ?_) fun H hp => ?_
  · obtain ⟨xs, _, q1, _, q2⟩ := hp
    exact hG H q1 q2
  · obtain ⟨xs, p1, p2, p3, p4⟩ := hp
    refine hg _ _ _ _ _ (fun σ2 H2 z => ⟨z.1, htt _ _ _ _ (fun b H3 z2 => ?_) z.2⟩) (hs i x H H' xs hi p1 p2 p3 p4 hy)
    cases b with
    | true =>
      refine iteT (hte _ _ _ _ (fun y H4 z3 => ?_) ((if_pos rfl).mp z2))
      exact ⟨xs, z3.1, by have := hacc i xs p1; omega, xs ++ [y], z3.2.1, z3.2.2.1 _, upd_same, z3.2.2.2.mut nD⟩
    | false =>
      have z3 := (if_neg Bool.false_ne_true).mp z2
      exact iteF ⟨xs, z3.2.1, z3.2.2.1, z3.1, z3.2.2.2⟩
  · obtain ⟨xs, p1, p2, p3, p4⟩ := hp
    exact hd H xs p1 p2 p3 p4
/-! ### lists of places -/
theorem range_up (n : Nat) : (List.range n).Pairwise (· < ·) := List.pairwise_lt_range
theorem filt_mem {n : Nat} {p : Nat → Bool} {k : Nat} : k ∈ (List.range n).filter p ↔ k < n ∧ p k = true := by
  rw [List.mem_filter, List.mem_range]
theorem filt_first {n : Nat} {p : Nat → Bool} {k : Nat} {t : List Nat} (h : (List.range n).filter p = k :: t) : k < n ∧ p k = true ∧ ∀ j, j < n → p j = true → k ≤ j := by
  have hp : ((List.range n).filter p).Pairwise (· < ·) := (range_up n).sublist List.filter_sublist
  have hk : k ∈ (List.range n).filter p := by rw [h]; exact List.mem_cons_self
  refine ⟨(filt_mem.mp hk).1, (filt_mem.mp hk).2, fun j hj hpj => ?_⟩
  have hm : j ∈ (List.range n).filter p := filt_mem.mpr ⟨hj, hpj⟩
  rw [h] at hm hp
  rcases List.mem_cons.mp hm with e | e
  · omega
  · exact Nat.le_of_lt ((List.pairwise_cons.mp hp).1 j e)
theorem filt_last {n : Nat} {p : Nat → Bool} {k : Nat} {t : List Nat} (h : (List.range n).filter p = t ++ [k]) : k < n ∧ p k = true ∧ ∀ j, j < n → p j = true → j ≤ k := by
  have hp : ((List.range n).filter p).Pairwise (· < ·) := (range_up n).sublist List.filter_sublist
  have hk : k ∈ (List.range n).filter p := by rw [h]; simp
  refine ⟨(filt_mem.mp hk).1, (filt_mem.mp hk).2, fun j hj hpj => ?_⟩
  have hm : j ∈ (List.range n).filter p := filt_mem.mpr ⟨hj, hpj⟩
  rw [h] at hm hp
  rcases List.mem_append.mp hm with e | e
  · exact Nat.le_of_lt ((List.pairwise_append.mp hp).2.2 j e k (by simp))
  · rw [List.mem_singleton.mp e]
    exact Nat.le_refl _
theorem filt_succ {n : Nat} {p : Nat → Bool} : (List.range (n + 1)).filter p = (List.range n).filter p ++ (if p n = true then [n] else []) := by
  rw [List.range_succ, List.filter_append]
  cases h : p n <;> simp [h]
theorem filt_len (n : Nat) (p : Nat → Bool) : ((List.range n).filter p).length ≤ n := by
  have h := List.length_filter_le p (List.range n)
  rw [List.length_range] at h
  exact h
def isNum (row : List (Option Int)) (k : Nat) : Bool := match row[k]? with
  | some (some _) => true
  | _ => false
theorem isNum_of {row : List (Option Int)} {k : Nat} {x : Int} (h : row[k]? = some (some x)) : isNum row k = true := by unfold isNum; rw [h]
theorem isNum_to {row : List (Option Int)} {k : Nat} (h : isNum row k = true) : ∃ x, row[k]? = some (some x) := by
  unfold isNum at h
  split at h
  · exact ⟨_, by assumption⟩
  · cases h
theorem isNum_no {row : List (Option Int)} {k : Nat} (h : row[k]? = some none) : isNum row k = false := by unfold isNum; rw [h]
abbrev ivs (l : List Nat) : List V := l.map fun (k : Nat) => V.int (k : Int)
theorem ivs_ints (l : List Nat) : ivs l = (l.map fun (k : Nat) => (k : Int)).map V.int := by
  simp [ivs]
end BT

namespace BT
open PySem PySem.Spec PyProof.Rows L2 GenW
/-! the same rules, the written part named (a comprehension's reading may not name its block) -/
theorem ixTK {X : Cx} (K : PySem.W.Frag) (h : X.K = K := by rfl) : IxR X (rIxT K) := by subst h; exact ix_tup
theorem ixLK {X : Cx} (K : PySem.W.Frag) (h : X.K = K := by rfl) : IxR X (rIxL K) := by subst h; exact ix_list
theorem lenK {X : Cx} (K : PySem.W.Frag) (h : X.K = K := by rfl) : CallR X (.builtin "len") (fun xs H Q => ∃ p ys, xs = [.ref p] ∧ (SqL K H p ys ∨ SqT K H p ys) ∧ Q (.int ys.length) H) := by subst h; exact call_len_seq
theorem tupK {X : Cx} (K : PySem.W.Frag) (h : X.K = K := by rfl) : CallR X (.type "tuple") (fun xs H Q => ∃ p ys, xs = [.ref p] ∧ ((SqL K H p ys ∧ ∀ l, H l = none → Q (.ref l) (upd H l (.tup ys))) ∨ (SqT K H p ys ∧ Q (.ref p) H))) := by subst h; exact call_tuple_of
theorem lisK {X : Cx} (K : PySem.W.Frag) (h : X.K = K := by rfl) : CallR X (.type "list") (fun xs H Q => ∃ p ys, xs = [.ref p] ∧ (SqL K H p ys ∨ SqT K H p ys) ∧ ∀ l, H l = none → Q (.ref l) (upd H l (.lst ys))) := by subst h; exact call_list_of
theorem eqDK {X : Cx} (K : PySem.W.Frag) (hu : X.A.units + 64 < cLine) (h : X.K = K := by rfl) : OpR X (compareOp .Eq) (rEqD K) := by subst h; exact op_eqD hu
theorem neDK {X : Cx} (K : PySem.W.Frag) (hu : X.A.units + 64 < cLine) (h : X.K = K := by rfl) : OpR X (compareOp .NotEq) (rNeD K) := by subst h; exact op_neD hu
theorem slLK {X : Cx} (K : PySem.W.Frag) (h : X.K = K := by rfl) : SlR X (rSlL K) := by subst h; exact sl_list
theorem minK {X : Cx} (K : PySem.W.Frag) (hc : X.calm = true) (h : X.K = K := by rfl) : CallR X (.builtin "min") (rMin K) := by subst h; exact cr_min hc
theorem allK {X : Cx} (K : PySem.W.Frag) (hc : X.calm = true) (h : X.K = K := by rfl) : CallR X (.builtin "all") (rAll K) := by subst h; exact cr_all hc
theorem isiK {X : Cx} (K : PySem.W.Frag) (h : X.K = K := by rfl) : CallR X (.builtin "isinstance") (rIsi K) := by subst h; exact call_isi
theorem piLK {X : Cx} {tg l : Expr} {tl : TE} (K : PySem.W.Frag) (hl : PE X l tl) (h : X.K = K := by rfl) : PI X tg l (iList K tl) := by subst h; exact pi_list hl
theorem piTK {X : Cx} {tg l : Expr} {tl : TE} (K : PySem.W.Frag) (hl : PE X l tl) (h : X.K = K := by rfl) : PI X tg l (iTup K tl) := by subst h; exact pi_tup hl
end BT

namespace BT
open PySem PySem.Spec PyProof.Rows L2 GenW
theorem cut_to (xs : List V) (n : Nat) : cutV xs none (some (n : Int)) = xs.take n := by
  unfold cutV
  rw [show HT.sIx xs.length 0 none = 0 from HT.sIx_none xs.length 0, show HT.sIx xs.length xs.length (some (n : Int)) = min n xs.length from HT.sIx_nat xs.length _ n]
  show (xs.drop 0).take (min n xs.length - 0) = xs.take n
  rw [List.drop_zero, Nat.sub_zero]
  rcases Nat.le_total n xs.length with h | h
  · rw [Nat.min_eq_left h]
  · rw [Nat.min_eq_right h, List.take_length, List.take_of_length_le h]
theorem cut_from (xs : List V) (n : Nat) (hn : n ≤ xs.length) : cutV xs (some (n : Int)) none = xs.drop n := by
  unfold cutV
  rw [show HT.sIx xs.length 0 (some (n : Int)) = min n xs.length from HT.sIx_nat xs.length 0 n, show HT.sIx xs.length xs.length none = xs.length from HT.sIx_none xs.length _, Nat.min_eq_left hn]
  exact List.take_of_length_le (by rw [List.length_drop]; exact Nat.le_refl _)
theorem at4 {a b c e s : Int} (h0 : 0 ≤ s) (h1 : s < 4) : ∃ z : Int, atI [V.int a, V.int b, V.int c, V.int e] s = some (V.int z) := by
  rcases (show s = 0 ∨ s = 1 ∨ s = 2 ∨ s = 3 by omega) with rfl | rfl | rfl | rfl
  · exact ⟨a, atI_nat (j := 0) rfl⟩
  · exact ⟨b, atI_nat (j := 1) rfl⟩
  · exact ⟨c, atI_nat (j := 2) rfl⟩
  · exact ⟨e, atI_nat (j := 3) rfl⟩
theorem Dk.ni {d c p : Addr} {H : Hp} (h : Dk d c H) (np : H p = none) : p ∉ [d, c] := fun z => by
  obtain ⟨_, _, _, h1, h2, _⟩ := h
  rcases List.mem_cons.mp z with e | e
  · rw [e, h1] at np; cases np
  · rw [List.mem_singleton.mp e, h2] at np; cases np
theorem Dk.new {d c p : Addr} {H : Hp} {o : HO} (h : Dk d c H) (np : H p = none) : Dk d c (upd H p o) := h.kp (M := []) (Kp.new np) (by simp) (by simp)
theorem Dk.up {d c p : Addr} {H : Hp} {o : HO} (h : Dk d c H) (np : p ∉ [d, c]) : Dk d c (upd H p o) := by
  obtain ⟨cs, sd, a, h1, h2, h3⟩ := h
  refine ⟨cs, sd, a, ?_, ?_, h3⟩
  · rw [upd_ne (fun z => np (by rw [← z]; exact List.mem_cons_self))]; exact h1
  · rw [upd_ne (fun z => np (by rw [← z]; exact List.mem_cons_of_mem _ (List.mem_singleton.mpr rfl)))]; exact h2
theorem p6 : (10 : Int) ^ ((6 : Int).toNat) = 1000000 := by decide
end BT

namespace K15
open PySem PySem.Spec PyProof.Rows L2 GenW BT
def topS (i : Nat) : Stmt := PySem.Challenge.pw_bendtables_k15_least_places_of_any_table.main.body.getD i (.Pass ⟨0, 0, 0, 0⟩)
abbrev s_least_places : Stmt := topS 1
abbrev p_least_places : List Str := ["table", "side"]
abbrev n_least_places : List Str := ["table", "side"]
theorem sc_least_places : FnScope n_least_places p_least_places (defScope s_least_places) := ⟨rfl, rfl, rfl, by decide +kernel, rfl, by decide +kernel, by decide +kernel⟩
abbrev s_least_place : Stmt := topS 2
abbrev p_least_place : List Str := ["row", "side"]
abbrev n_least_place : List Str := ["row", "side", "place", "column", "number"]
theorem sc_least_place : FnScope n_least_place p_least_place (defScope s_least_place) := ⟨rfl, rfl, rfl, by decide +kernel, rfl, by decide +kernel, by decide +kernel⟩
abbrev s_parts_of : Stmt := topS 6
abbrev p_parts_of : List Str := ["thing"]
abbrev n_parts_of : List Str := ["thing", "parts", "waiting", "part"]
theorem sc_parts_of : FnScope n_parts_of p_parts_of (defScope s_parts_of) := ⟨rfl, rfl, rfl, by decide +kernel, rfl, by decide +kernel, by decide +kernel⟩
abbrev s_is_both : Stmt := topS 7
abbrev p_is_both : List Str := ["thing"]
abbrev n_is_both : List Str := ["thing"]
theorem sc_is_both : FnScope n_is_both p_is_both (defScope s_is_both) := ⟨rfl, rfl, rfl, by decide +kernel, rfl, by decide +kernel, by decide +kernel⟩
abbrev s_plain_size : Stmt := topS 8
abbrev p_plain_size : List Str := ["rule"]
abbrev n_plain_size : List Str := ["rule"]
theorem sc_plain_size : FnScope n_plain_size p_plain_size (defScope s_plain_size) := ⟨rfl, rfl, rfl, by decide +kernel, rfl, by decide +kernel, by decide +kernel⟩
abbrev s_plain_entry : Stmt := topS 9
abbrev p_plain_entry : List Str := ["rule", "row", "column"]
abbrev n_plain_entry : List Str := ["rule", "row", "column", "taken", "apart"]
theorem sc_plain_entry : FnScope n_plain_entry p_plain_entry (defScope s_plain_entry) := ⟨rfl, rfl, rfl, by decide +kernel, rfl, by decide +kernel, by decide +kernel⟩
abbrev s_table_by : Stmt := topS 10
abbrev p_table_by : List Str := ["rule"]
abbrev n_table_by : List Str := ["rule", "parts", "table", "part"]
theorem sc_table_by : FnScope n_table_by p_table_by (defScope s_table_by) := ⟨rfl, rfl, rfl, by decide +kernel, rfl, by decide +kernel, by decide +kernel⟩
abbrev s_plain_table : Stmt := topS 11
abbrev p_plain_table : List Str := ["rule"]
abbrev n_plain_table : List Str := ["rule", "rows", "columns"]
theorem sc_plain_table : FnScope n_plain_table p_plain_table (defScope s_plain_table) := ⟨rfl, rfl, rfl, by decide +kernel, rfl, by decide +kernel, by decide +kernel⟩
abbrev s_law_deck : Stmt := topS 16
abbrev p_law_deck : List Str := ["_law_script"]
abbrev n_law_deck : List Str := ["_law_script", "_law_cells", "_law_seed", "_law_cell"]
theorem sc_law_deck : FnScope n_law_deck p_law_deck (defScope s_law_deck) := ⟨rfl, rfl, rfl, by decide +kernel, rfl, by decide +kernel, by decide +kernel⟩
abbrev s_law_draw : Stmt := topS 17
abbrev p_law_draw : List Str := ["_law_deck_here", "_law_most"]
abbrev n_law_draw : List Str := ["_law_deck_here", "_law_most", "_law_cell", "_law_far"]
theorem sc_law_draw : FnScope n_law_draw p_law_draw (defScope s_law_draw) := ⟨rfl, rfl, rfl, by decide +kernel, rfl, by decide +kernel, by decide +kernel⟩
abbrev s_law_size : Stmt := topS 18
abbrev p_law_size : List Str := ["_law_deck_here"]
abbrev n_law_size : List Str := ["_law_deck_here"]
theorem sc_law_size : FnScope n_law_size p_law_size (defScope s_law_size) := ⟨rfl, rfl, rfl, by decide +kernel, rfl, by decide +kernel, by decide +kernel⟩
abbrev s_law_table : Stmt := topS 19
abbrev p_law_table : List Str := ["_law_deck_here"]
abbrev n_law_table : List Str := ["_law_deck_here", "_law_sort", "_law_holes", "_law_same", "_law_many", "_law_wide", "_law_rows", "_law_i", "_law_bare", "_law_row", "_law_k", "_law_far", "_law_number"]
theorem sc_law_table : FnScope n_law_table p_law_table (defScope s_law_table) := ⟨rfl, rfl, rfl, by decide +kernel, rfl, by decide +kernel, by decide +kernel⟩
abbrev s_law_least : Stmt := topS 20
abbrev p_law_least : List Str := ["_law_row", "_law_side"]
abbrev n_law_least : List Str := ["_law_row", "_law_side", "_law_there", "_law_best", "_law_k"]
theorem sc_law_least : FnScope n_law_least p_law_least (defScope s_law_least) := ⟨rfl, rfl, rfl, by decide +kernel, rfl, by decide +kernel, by decide +kernel⟩
abbrev s_law_told_table : Stmt := topS 21
abbrev p_law_told_table : List Str := ["_law_deck_here"]
abbrev n_law_told_table : List Str := ["_law_deck_here", "_law_over", "_law_few", "_law_long", "_law_k"]
theorem sc_law_told_table : FnScope n_law_told_table p_law_told_table (defScope s_law_told_table) := ⟨rfl, rfl, rfl, by decide +kernel, rfl, by decide +kernel, by decide +kernel⟩
abbrev s_law_right : Stmt := topS 22
abbrev p_law_right : List Str := ["_law_rows"]
abbrev n_law_right : List Str := ["_law_rows", "_law_side", "_law_found", "_law_place", "_law_row"]
theorem sc_law_right : FnScope n_law_right p_law_right (defScope s_law_right) := ⟨rfl, rfl, rfl, by decide +kernel, rfl, by decide +kernel, by decide +kernel⟩
abbrev s_law : Stmt := topS 23
abbrev p_law : List Str := ["_law_script"]
abbrev n_law : List Str := ["_law_script", "_law_deck_here", "_law_tables", "_law_turn", "_law_rows"]
theorem sc_law : FnScope n_law p_law (defScope s_law) := ⟨rfl, rfl, rfl, by decide +kernel, rfl, by decide +kernel, by decide +kernel⟩
structure Txt (K : PySem.W.Frag) (mg : Str → Option Value) where
  least_places : D1 K mg "least_places" s_least_places p_least_places
  least_place : D1 K mg "least_place" s_least_place p_least_place
  parts_of : D1 K mg "parts_of" s_parts_of p_parts_of
  is_both : D1 K mg "is_both" s_is_both p_is_both
  plain_size : D1 K mg "plain_size" s_plain_size p_plain_size
  plain_entry : D1 K mg "plain_entry" s_plain_entry p_plain_entry
  table_by : D1 K mg "table_by" s_table_by p_table_by
  plain_table : D1 K mg "plain_table" s_plain_table p_plain_table
  law_deck : D1 K mg "_law_deck" s_law_deck p_law_deck
  law_draw : D1 K mg "_law_draw" s_law_draw p_law_draw
  law_size : D1 K mg "_law_size" s_law_size p_law_size
  law_table : D1 K mg "_law_table" s_law_table p_law_table
  law_least : D1 K mg "_law_least" s_law_least p_law_least
  law_told_table : D1 K mg "_law_told_table" s_law_told_table p_law_told_table
  law_right : D1 K mg "_law_right" s_law_right p_law_right
  law : D1 K mg "law" s_law p_law
  c_least_places : Addr
  P_least_places : Addr
  h_least_places : least_places.fd.code = .ref c_least_places
  c_plain_table : Addr
  P_plain_table : Addr
  h_plain_table : plain_table.fd.code = .ref c_plain_table
  b_tuple : mg "tuple" = none
  b_enumerate : mg "enumerate" = none
  b_isinstance : mg "isinstance" = none
  b_len : mg "len" = none
  b_abs : mg "abs" = none
  b_range : mg "range" = none
  b_list : mg "list" = none
  b_int : mg "int" = none
  b_min : mg "min" = none
  b_zip : mg "zip" = none
  b_bool : mg "bool" = none
  b_all : mg "all" = none
end K15

namespace K15
open PySem PySem.Spec PyProof.Rows L2 GenW BT
section
variable {P : Program} {w : World} {K : PySem.W.Frag} {mg : Str → Option Value} {base : Heap}
def spDraw : Sp := fun vs H Q _ => ∃ (d c : Addr) (most : Int), vs = [.ref d, .int most] ∧ Dk d c H ∧ 0 < most ∧ most < 1073741824 ∧ ∀ r H', 0 ≤ r → r < most → Dk d c H' → Kp [d, c] H H' → Q (.int r) H'
theorem ok_draw (T : Txt K mg) {k : Nat} : FnOk P w K mg base CX0 (k + 1) T.law_draw.f T.law_draw.fd p_law_draw spDraw := by
  refine T.law_draw.F.ok sc_law_draw (fun vs H Q E h => ?_) (fun cdv A outer s H vs Q E hr h => ?_)
  · obtain ⟨d, c, most, rfl, _⟩ := h
    rfl
  · obtain ⟨d, c, most, rfl, hD, hm0, hm1, q⟩ := h
    have hu := hu_of hr
    have nd := sc_law_draw.nd
    refine ⟨_, (pss_cons (ps_dput hu (pv 0) pe_str (pe_op op_add (pe_dget hu (pv 0) pe_str (fun _ _ => rfl)) pe_int) rfl)
        (pss_cons (ps_set (i := 2) nd rfl (Or.inl rfl) (pe_dget hu (pv 0) pe_str (fun _ _ => rfl)))
        (Evl.pss_cut (ps_if (pt_cmpR (op_neD hr.units) (pe_dget hu (pv 0) pe_str (fun _ _ => rfl)) (pe_lst pa_nil) (nomark _)) (pss_cons (ps_set (i := 2) nd rfl (Or.inl rfl) (pe_bm0 PySem.F.plainAttrs_list PySem.F.slot_list_pop PySem.F.type_list_pop mt_pop (pe_dget hu (pv 0) pe_str (fun _ _ => rfl))))
        (pss_one (ps_if (pt_cmpR op_ge (pv 2) (pe_op op_pow pe_int pe_int) (nomark _)) (pss_cons (ps_expr (pe_bm PySem.F.plainAttrs_list PySem.F.slot_list_append PySem.F.type_list_append mt_append (pe_dget hu (pv 0) pe_str (fun _ _ => rfl)) (pa_cons (pe_op op_fdivN (pv 2) (pv 1)) pa_nil)))
        (pss_one (ps_ret (pe_op op_modN (pv 2) (pv 1))))) pss_nil))) pss_nil)
        (pss_cons (ps_set (i := 3) nd rfl (Or.inl rfl) (pe_op op_mod (pe_op op_mul (pe_op op_add (pe_op op_mod (pv 2) pe_int) (pe_op op_mul pe_int (pe_dget hu (pv 0) pe_str (fun _ _ => rfl)))) pe_int) pe_int))
        (pss_cons (ps_set (i := 3) nd rfl (Or.inl rfl) (pe_op op_mod (pe_op op_add (pe_op op_add (pe_op op_mul (pv 3) (pv 3)) (pe_op op_mul pe_int (pv 3))) (pe_dget hu (pv 0) pe_str (fun _ _ => rfl))) pe_int))
        (pss_one (ps_ret (pe_op op_modN (pe_op op_fdiv (pe_op op_mod (pe_op op_mul (pv 3) pe_int) pe_int) pe_int) (pv 1))))))))), ?_⟩
    have hne := hD.ne
    obtain ⟨cs, sd, a, h1, h2, h3⟩ := hD
    -- at
    refine ⟨.ref d, rfl, d, .int a, rfl, dgAt h1, a, 1, rfl, rfl, .ref d, rfl, d, _, rfl, dpAt h1, ?_⟩
    have k1 : Kp [d, c] H (upd H d (.dK (dkv c sd (a + 1)))) := (Kp.refl H).wr List.mem_cons_self
    have c1 : upd H d (.dK (dkv c sd (a + 1))) c = some (.lst (cs.map V.int)) := by
      rw [upd_ne hne.symm]
      exact h2
    generalize hH1 : upd H d (.dK (dkv c sd (a + 1))) = H1 at k1 c1
    have d1 : H1 d = some (.dK (dkv c sd (a + 1))) := by rw [← hH1, upd_same]
    -- cell = seed
    refine ⟨.ref d, rfl, d, .int sd, rfl, dgSeed d1, ?_⟩
    -- the if, with a word behind it
    refine ⟨fun σ' H' => ∃ (x : Int) (cs' : List Int), σ' = [some (.ref d), some (.int most), some (.int x), none] ∧ H' d = some (.dK (dkv c sd (a + 1))) ∧ H' c = some (.lst (cs'.map V.int)) ∧ cs'.length ≤ 63 ∧ Kp [d, c] H H', ?_, ?_⟩
    · refine ⟨.ref d, rfl, d, .ref c, rfl, dgCells d1, Nat.zero_le _, fun p np => ?_⟩
      have hpd : d ≠ p := ne_of_none d1 np
      have hpc : c ≠ p := ne_of_none c1 np
      have k2 : Kp [d, c] H (upd H1 p (.lst [])) := k1.trans (Kp.new np)
      have d2 : upd H1 p (.lst []) d = some (.dK (dkv c sd (a + 1))) := by rw [upd_ne hpd]; exact d1
      have c2 : upd H1 p (.lst []) c = some (.lst (cs.map V.int)) := by rw [upd_ne hpc]; exact c1
      generalize hH2 : upd H1 p (.lst []) = H2 at k2 d2 c2
      have p2 : H2 p = some (.lst []) := by rw [← hH2, upd_same]
      refine ⟨_, _, .lst (lOf c2) (dpAll_ints cs), .lst (lOf p2) .nil, shaped_ints cs, rfl, _, rfl, ?_⟩
      rw [eqv_nil]
      cases hcs : cs with
      | nil => exact iteF ⟨sd, [], rfl, d2, by rw [c2, hcs], by decide, k2⟩
      | cons c0 cr =>
        refine iteT ?_
        have hlast : ∃ y cs', cs = cs' ++ [y] := ⟨cs.getLast (by rw [hcs]; simp), cs.dropLast, (List.dropLast_concat_getLast _).symm⟩
        obtain ⟨y, cs', ecs⟩ := hlast
        have hl' : cs'.length + 1 = cs.length := by rw [ecs]; simp
        have em : (cs.map V.int) = cs'.map V.int ++ [.int y] := by rw [ecs]; simp
        refine ⟨.ref d, rfl, d, .ref c, rfl, dgCells d2, .inl ⟨rfl, _, lOf c2⟩, c, _, .int y, rfl, rfl, c2, ?_, ?_⟩
        · rw [em]
          simp
        have ed : (cs.map V.int).dropLast = cs'.map V.int := by rw [em, List.dropLast_concat]
        rw [ed]
        have k3 : Kp [d, c] H (upd H2 c (.lst (cs'.map V.int))) := k2.wr (List.mem_cons_of_mem _ (List.mem_singleton.mpr rfl))
        have d3 : upd H2 c (.lst (cs'.map V.int)) d = some (.dK (dkv c sd (a + 1))) := by rw [upd_ne hne]; exact d2
        generalize hH3 : upd H2 c (.lst (cs'.map V.int)) = H3 at k3 d3
        have c3 : H3 c = some (.lst (cs'.map V.int)) := by rw [← hH3, upd_same]
        refine ⟨.int y, rfl, 10, 18, rfl, rfl, ⟨by decide, by decide, by decide⟩, y, _, rfl, rfl, _, rfl, ite2 (fun e => ?_) fun e => ?_⟩
        · refine ⟨.ref d, rfl, d, .ref c, rfl, dgCells d3, .inl ⟨rfl, _, lOf c3⟩, .int y, rfl, .int most, rfl, y, most, rfl, rfl, ⟨by omega, by omega⟩, c, _, _, rfl, rfl, c3, by rw [List.length_map]; exact Nat.lt_of_le_of_lt (show cs'.length ≤ 63 by omega) (by decide), ?_⟩
          refine ⟨.int y, rfl, .int most, rfl, y, most, rfl, rfl, by omega, ?_⟩
          obtain ⟨m1, m2⟩ := fmod_lt (x := y) hm0
          refine q _ _ m1 m2 ⟨cs' ++ [y.fdiv most], sd, a + 1, ?_, ?_, ?_⟩ (k3.wr (List.mem_cons_of_mem _ (List.mem_singleton.mpr rfl)))
          · rw [upd_ne hne]; exact d3
          · rw [upd_same, List.map_append]; rfl
          · rw [List.length_append]; show cs'.length + 1 ≤ 63; omega
        · exact ⟨y, cs', rfl, d3, c3, by omega, k3⟩
    · intro σ' H' hM
      obtain ⟨x, cs', rfl, d4, c4, hl4, k4⟩ := hM
      refine ⟨.int x, rfl, x, _, rfl, rfl, (show (0 : Int) < 2147483629 by decide), .ref d, rfl, d, _, rfl, dgAt d4, _, _, rfl, rfl, cmulL (by decide) (by decide), _, _, rfl, rfl, _, _, rfl, rfl, cmulR (by decide) (by decide), _, _, rfl, rfl, (show (0 : Int) < 2147483647 by decide), ?_⟩
      dsimp only
      have b1 := modm (x := (x % 2147483629 + 104729 * (a + 1)) * 48271) (show (0 : Int) < 2147483647 by decide)
      generalize hf1 : (x % 2147483629 + 104729 * (a + 1)) * 48271 % 2147483647 = f1 at b1 ⊢
      refine ⟨.int f1, rfl, .int f1, rfl, f1, f1, rfl, rfl, cmulL (by omega) (by omega), .int f1, rfl, _, f1, rfl, rfl, cmulL (by decide) (by decide), _, _, rfl, rfl, .ref d, rfl, d, _, rfl, dgAt d4, _, _, rfl, rfl, _, _, rfl, rfl, (show (0 : Int) < 2147483587 by decide), ?_⟩
      dsimp only
      have b2 := modm (x := (f1 * f1 + 69621 * f1 + (a + 1))) (show (0 : Int) < 2147483587 by decide)
      generalize hf2 : (f1 * f1 + 69621 * f1 + (a + 1)) % 2147483587 = f2 at b2 ⊢
      refine ⟨.int f2, rfl, f2, _, rfl, rfl, cmulR (by decide) (by decide), _, _, rfl, rfl, (show (0 : Int) < 2147483563 by decide), _, _, rfl, rfl, ⟨by decide, by decide⟩, .int most, rfl, _, most, rfl, rfl, by omega, ?_⟩
      obtain ⟨m1, m2⟩ := fmod_lt (x := f2 * 39373 % 2147483563 / 64) hm0
      exact q _ _ m1 m2 ⟨cs', sd, a + 1, d4, c4, hl4⟩ k4
end
end K15

namespace K15
open PySem PySem.Spec PyProof.Rows L2 GenW BT
section
variable {P : Program} {w : World} {K : PySem.W.Frag} {mg : Str → Option Value} {base : Heap}
def sideS (last : Bool) : Str := if last = true then "last" else "first"
def spLP (K : PySem.W.Frag) : Sp := fun vs H Q _ => ∃ (a : Addr) (row : List (Option Int)) (last : Bool), vs = [.ref a, .str (sideS last)] ∧ SqT K H a (row.map ov) ∧ ∀ v H', LeU last row row.length v → Kp [] H H' → Q v H'
theorem side_is (last : Bool) : decide ((V.str (sideS last)) = V.str (Str.ofString "last")) = last := by
  cases last
  · decide +kernel
  · decide +kernel
theorem ov_at {row : List (Option Int)} {i : Nat} {y : V} (h : (row.map ov)[i]? = some y) : ∃ r, row[i]? = some r ∧ y = ov r := by
  rw [List.getElem?_map] at h
  cases q : row[i]? with
  | none => rw [q] at h; cases h
  | some r => rw [q] at h; exact ⟨r, rfl, (Option.some.inj h).symm⟩
theorem at_ov {row : List (Option Int)} {i : Nat} {r : Option Int} (h : row[i]? = some r) : (row.map ov)[i]? = some (ov r) := by
  rw [List.getElem?_map, h]
  rfl
theorem ok_least_place (T : Txt K mg) {k : Nat} : FnOk P w K mg base CX0 (k + 1) T.least_place.f T.least_place.fd p_least_place (spLP K) := by
  refine T.least_place.F.ok sc_least_place (fun vs H Q E h => ?_) (fun cdv A outer s H vs Q E hr h => ?_)
  · obtain ⟨a, row, last, rfl, _⟩ := h
    rfl
  · obtain ⟨a, row, last, rfl, hS, q⟩ := h
    have nd := sc_least_place.nd
    refine ⟨_, (pss_cons (ps_set (i := 2) nd rfl (Or.inl rfl) pe_non)
        (pss_cons (ps_for PassesOwn.never rfl (pi_enumT (by rfl) T.b_enumerate (pa_cons (pv 0) pa_nil)) (pg_tup (by rfl) (pgs_cons (pg_name (i := 3) nd rfl (Or.inl rfl)) (pgs_cons (pg_name (i := 4) nd rfl (Or.inl rfl)) pgs_nil))) (pss_cons (ps_if (pt_cmpR op_isN (pv 4) pe_non (nomark _)) (pss_one ps_continue) pss_nil)
        (pss_one (ps_if (PW.pt (pw_or (pt_cmpR op_isN (pv 2) pe_non (nomark _)) (pw_or (pt_cmpR op_lt (pv 4) (pe_ix (ixTK K) (pv 0) (pv 2) (fun _ _ => rfl)) (nomark _)) (pw_or1 (PW.pt (pw_and (pt_cmpR op_eq (pv 4) (pe_ix (ixTK K) (pv 0) (pv 2) (fun _ _ => rfl)) (nomark _)) (pw_and1 (pt_cmpR op_eq (pv 1) pe_str (nomark _))))))))) (pss_one (ps_set (i := 2) nd rfl (Or.inl rfl) (pv 3))) pss_nil))))
        (pss_one (ps_ret (pv 2))))), ?_⟩
    refine ⟨.ref a, rfl, a, row.map ov, rfl, hS, for_it (walk_enumT (xs := row.map ov)) (fun i σ H' => ∃ v y3 y4, σ = [some (.ref a), some (.str (sideS last)), some v, y3, y4] ∧ LeU last row i v ∧ Kp [] H H') ⟨.non, none, none, rfl, LeU.zero, Kp.refl H⟩ (fun i σ H' hi hp => ?_) (fun i x σ H1 H2 hi hp hy => ?_) fun σ H' hp => ?_⟩
    · obtain ⟨v, y3, y4, _, _, kk⟩ := hp
      exact kk.t (by simp) hS
    · obtain ⟨v, y3, y4, rfl, hv, kk⟩ := hp
      obtain ⟨T1, x1, y1, rfl, nT, rfl, hx1, hy1⟩ := hy
      cases hx1
      obtain ⟨r, hr1, rfl⟩ := ov_at hy1
      have k2 : Kp [] H (upd H1 T1 (.tup [.int (i : Nat), ov r])) := kk.trans (Kp.new nT)
      have hA : SqT K (upd H1 T1 (.tup [.int (i : Nat), ov r])) a (row.map ov) := k2.t (by simp) hS
      refine ⟨T1, [.int (i : Nat), ov r], rfl, tOf upd_same, rfl, .int (i : Nat), [ov r], rfl, ov r, [], rfl, rfl, ?_⟩
      generalize upd H1 T1 (.tup [.int (i : Nat), ov r]) = H3 at k2 hA
      cases r with
      | none =>
        refine ⟨.non, rfl, rfl, _, rfl, iteT ?_⟩
        exact ⟨v, _, _, rfl, hv.skip hr1, k2⟩
      | some n =>
        refine ⟨.int n, rfl, rfl, _, rfl, iteF ?_⟩
        by_cases hnon : v = .non
        · subst hnon
          refine ⟨.non, rfl, rfl, _, rfl, ?_⟩
          refine iteT (iteT ?_)
          exact ⟨.int (i : Nat), rfl, _, _, _, rfl, hv.first hr1, k2⟩
        · obtain ⟨kk1, x, rfl, hkm, hx⟩ := hv.at hnon
          have hat : atI (row.map ov) ((kk1 : Nat) : Int) = some (.int x) := atI_nat (at_ov hx)
          refine ⟨.int kk1, rfl, rfl, _, rfl, iteF ?_⟩
          refine ⟨.int n, rfl, .ref a, rfl, .int kk1, rfl, a, _, _, _, rfl, rfl, hA, hat, n, x, rfl, rfl, _, rfl, ?_⟩
          by_cases hlt : n < x
          · rw [decide_eq_true hlt]
            refine iteT (iteT ?_)
            exact ⟨.int (i : Nat), rfl, _, _, _, rfl, hv.take hx hr1 (.inl hlt), k2⟩
          · rw [decide_eq_false hlt]
            refine iteF ?_
            refine ⟨.int n, rfl, .ref a, rfl, .int kk1, rfl, a, _, _, _, rfl, rfl, hA, hat, rfl, _, rfl, ?_⟩
            by_cases heq : n = x
            · subst heq
              rw [decide_eq_true rfl]
              refine iteT ?_
              refine ⟨.str (sideS last), rfl, rfl, _, rfl, ?_⟩
              rw [side_is]
              cases last with
              | true =>
                refine iteT ?_
                exact ⟨.int (i : Nat), rfl, _, _, _, rfl, hv.take hx hr1 (.inr ⟨rfl, rfl⟩), k2⟩
              | false =>
                refine iteF ?_
                exact ⟨_, _, _, rfl, hv.stay hx hr1 (by simp), k2⟩
            · rw [decide_eq_false (fun z => heq (V.int.inj z))]
              refine iteF (iteF ?_)
              exact ⟨_, _, _, rfl, hv.stay hx hr1 (by omega), k2⟩
    · obtain ⟨v, y3, y4, rfl, hv, kk⟩ := hp
      rw [List.length_map] at hv
      exact ⟨v, rfl, q v H' hv kk⟩
def spSize : Sp := fun vs H Q _ => ∃ (d c : Addr), vs = [.ref d] ∧ Dk d c H ∧ ∀ r H', 1 ≤ r → r ≤ 12 → Dk d c H' → Kp [d, c] H H' → Q (.int r) H'
theorem ok_size (T : Txt K mg) {k : Nat} : FnOk P w K mg base CX0 (k + 2) T.law_size.f T.law_size.fd p_law_size spSize := by
  have G_law_draw : FnOk P w K mg base CX0 1 T.law_draw.f T.law_draw.fd p_law_draw spDraw := ok_draw T
  refine T.law_size.F.ok sc_law_size (fun vs H Q E h => ?_) (fun cdv A outer s H vs Q E hr h => ?_)
  · obtain ⟨d, c, rfl, _⟩ := h
    rfl
  · obtain ⟨d, c, rfl, hD, q⟩ := h
    replace hr := hr.mono (show 1 ≤ k + 1 by omega)
    refine ⟨_, (pss_one (ps_ret (pe_ix ix_list (pe_lst (pa_cons (pe_op op_add pe_int (pe_call G_law_draw (hr.mono (by decide)) (by rfl) T.law_draw.g T.law_draw.F.kp T.law_draw.b .nil pass0 (pa_cons (pv 0) (pa_cons pe_int pa_nil)))) (pa_cons pe_int pa_nil))) (pe_callTy call_int1 (by rfl) T.b_int (by decide +kernel) (pa_cons (pe_cmpR op_eq (pe_call G_law_draw (hr.mono (by decide)) (by rfl) T.law_draw.g T.law_draw.F.kp T.law_draw.b .nil pass0 (pa_cons (pv 0) (pa_cons pe_int pa_nil))) pe_int (nomark _)) pa_nil)) (fun _ _ => rfl)))), ?_⟩
    refine ⟨.ref d, rfl, d, c, 6, rfl, hD, by decide, by decide, fun r1 H1 l1 u1 D1 k1 => ?_⟩
    refine ⟨1, r1, rfl, rfl, (show (2 : Nat) ≤ sizeLine by decide), fun p np => ?_⟩
    have D2 : Dk d c (upd H1 p (.lst [.int (1 + r1), .int 12])) := D1.kp (M := []) (Kp.new np) (by simp) (by simp)
    have pd : p ≠ d := by obtain ⟨_, _, _, z, _⟩ := D1; exact (ne_of_none z np).symm
    have pc : p ≠ c := by obtain ⟨_, _, _, _, z, _⟩ := D1; exact (ne_of_none z np).symm
    refine ⟨.ref d, rfl, d, c, 8, rfl, D2, by decide, by decide, fun r2 H3 l2 u2 D3 k3 => ?_⟩
    have hp3 : H3 p = some (.lst [.int (1 + r1), .int 12]) := k3 p _ (by simp [pd, pc]) upd_same
    have kk : Kp [d, c] H H3 := (k1.trans (Kp.new np)).trans k3
    refine ⟨rfl, .inr ⟨_, rfl, ?_⟩⟩
    by_cases e : r2 = 5
    · subst e
      rw [decide_eq_true rfl]
      exact ⟨p, _, _, .int 12, rfl, rfl, lOf hp3, atI_nat (j := 1) rfl, q 12 H3 (by decide) (by decide) D3 kk⟩
    · rw [decide_eq_false (fun z => e (V.int.inj z))]
      exact ⟨p, _, _, .int (1 + r1), rfl, rfl, lOf hp3, atI_nat (j := 0) rfl, q (1 + r1) H3 (by omega) (by omega) D3 kk⟩
end
end K15

namespace K15
open PySem PySem.Spec PyProof.Rows L2 GenW BT
section
variable {P : Program} {w : World} {K : PySem.W.Frag} {mg : Str → Option Value} {base : Heap}
def spLPs (Pt : Addr) : Sp := fun vs H Q _ => ∃ (a : Addr) (rows : List (List (Option Int))) (last : Bool), vs = [.ref a, .str (sideS last)] ∧ TabAt H a rows ∧ rows.length ≤ 1000 ∧ TabG H Pt ∧
  ∀ p us H', H' p = some (.tup us) → us.length = rows.length → (∀ (i : Nat) row v, rows[i]? = some row → us[i]? = some v → LeU last row row.length v) → Kp [Pt] H H' → TabG H' Pt → Q (.ref p) H'
theorem ok_least_places (T : Txt K mg) (TB : TabB base mg T.c_least_places T.P_least_places) {k : Nat} : FnOk P w K mg base CX0 (k + 8) T.least_places.f T.least_places.fd p_least_places (spLPs T.P_least_places) := by
  have G_least_place : FnOk P w K mg base CX0 1 T.least_place.f T.least_place.fd p_least_place (spLP K) := ok_least_place T
  refine BT.Fun.okC T.least_places.F T.h_least_places sc_least_places (fun vs H Q E h => ?_) (fun A outer s H vs Q E hr h => ?_)
  · obtain ⟨a, rows, last, rfl, _⟩ := h
    rfl
  · obtain ⟨a, rows, last, rfl, hT, hl, hG, q⟩ := h
    replace hr := hr.mono (show 7 ≤ k + 7 by omega)
    refine ⟨_, pss_one (ps_ret (pe_tupG (k := 1) (js := [none, some 1]) (N := ["row", "side"]) hr TB rfl (gxOk_by (XN := n_least_places) (xs := defScope s_least_places) (by decide +kernel)) (pi_tup (pv 0)) (fun _ => rfl)
      (fun _ _ _ _ _ _ _ _ _ _ => pg_name (i := 0) (show (["row", "side"] : List Str).Nodup by decide +kernel) rfl (Or.inl rfl)) (fun _ _ _ _ _ _ _ _ _ hrg => pe_call G_least_place hrg (by rfl) T.least_place.g T.least_place.F.kp T.least_place.b .nil pass0 (pa_cons (pv 0) (pa_cons (pv 1) pa_nil))) (by rfl) T.b_tuple)), ?_⟩
    obtain ⟨ps, t1, t2, t3⟩ := hT
    refine ⟨.ref a, rfl, a, rfl, ⟨_, tOf t1⟩, hG, fun H2 tb => ?_⟩
    have k2 : Kp [T.P_least_places] H H2 := Tabbed.kp tb
    refine tup_it (walk_tup (xs := ps.map V.ref)) (fun us H' => Kp [T.P_least_places] H H' ∧ TabG H' T.P_least_places ∧ ∀ (i : Nat) row v, rows[i]? = some row → us[i]? = some v → LeU last row row.length v) ⟨k2, tb.1, fun i row v _ e => by simp at e⟩ (fun us H' hlu hp => ?_) (fun us x H' H3 hlt hp hy => ?_) fun us H' p hlu hp np => ?_
    · exact hp.1.t ((NT.tab hG).ni t1) (tOf t1)
    · obtain ⟨kk, tg, hu⟩ := hp
      obtain ⟨rfl, hx⟩ := hy
      rw [List.getElem?_map] at hx
      rw [List.length_map] at hlt
      have hb : ps[us.length]? = some ps[us.length] := List.getElem?_eq_getElem hlt
      rw [hb] at hx
      have ex : x = .ref ps[us.length] := (Option.some.inj hx).symm
      subst ex
      have hrl : us.length < rows.length := by omega
      have hrow := List.getElem?_eq_getElem hrl
      have hS := t3 us.length _ _ hb hrow
      refine ⟨Le.set rfl, .ref ps[us.length], rfl, .str (sideS last), rfl, ps[us.length], rows[us.length], last, rfl, tOf (kk _ _ ((NT.tab hG).ni hS) hS), fun v H4 hv k4 => ?_⟩
      refine ⟨Nat.lt_of_le_of_lt (show us.length ≤ 1000 by omega) (by decide), by rw [List.length_append, List.length_map]; exact hlt, kk.trans (k4.mono (by simp)), TabG.kp tg k4 (by simp), fun i row w e1 e2 => ?_⟩
      by_cases hi : i < us.length
      · rw [List.getElem?_append_left hi] at e2
        exact hu i row w e1 e2
      · have hil : i < (us ++ [v]).length := (List.getElem?_eq_some_iff.mp e2).1
        rw [List.length_append] at hil
        have ei : i = us.length := by simp at hil; omega
        subst ei
        rw [List.getElem?_append_right (Nat.le_refl _), Nat.sub_self] at e2
        cases e2
        rw [hrow] at e1
        cases e1
        exact hv
    · obtain ⟨kk, tg, hu⟩ := hp
      rw [List.length_map] at hlu
      exact q p us _ upd_same (by omega) hu (kk.trans (Kp.new np)) (TabG.kp tg (Kp.new (M := []) np) (by simp))
end
end K15

namespace K15
open PySem PySem.Spec PyProof.Rows L2 GenW BT
section
variable {P : Program} {w : World} {K : PySem.W.Frag} {mg : Str → Option Value} {base : Heap}
def spLL (K : PySem.W.Frag) : Sp := fun vs H Q _ => ∃ (a : Addr) (row : List (Option Int)) (last : Bool), vs = [.ref a, .str (sideS last)] ∧ SqT K H a (row.map ov) ∧ row.length ≤ 1000 ∧ ∀ v H', LeU last row row.length v → Kp [] H H' → Q v H'
theorem ok_law_least (T : Txt K mg) {k : Nat} : FnOk P w K mg base CX0 (k + 1) T.law_least.f T.law_least.fd p_law_least (spLL K) := by
  refine T.law_least.F.ok sc_law_least (fun vs H Q E h => ?_) (fun cdv A outer s H vs Q E hr h => ?_)
  · obtain ⟨a, row, last, rfl, _⟩ := h
    rfl
  · obtain ⟨a, row, last, rfl, hS, hl, q⟩ := h
    have nd := sc_law_least.nd
    refine ⟨_, (pss_cons (ps_setLc (i := 2) (own := [("_law_k", 4)]) rfl nd rfl rfl (sw_true rfl rfl rfl (by decide +kernel)) (pi_range1 (by rfl) T.b_range (pa_cons (pe_callB (lenK K) (by rfl) T.b_len PySem.boot_len (pa_cons (pv 0) pa_nil)) pa_nil)) (blkOk_by (own := [("_law_k", 4)]) (N := n_law_least) (sc := defScope s_law_least) (by decide +kernel)) (fun _ _ _ _ _ => (pg_name (i := 4) nd rfl (Or.inl rfl))) (fun _ _ _ _ _ => (pts_one (pt_cmpR op_notN (pe_ix (ixTK K) (pv 0) (pv 4) (fun _ _ => rfl)) pe_non (nomark _)))) (fun _ _ _ _ _ => (pv 4)))
        (pss_cons (ps_if (pt_cmpR (eqDK K hr.units) (pv 2) (pe_lst pa_nil) (nomark _)) (pss_one (ps_ret pe_non)) pss_nil)
        (pss_cons (ps_set (i := 3) nd rfl (Or.inr rfl) (pe_callB (minK K rfl) (by rfl) T.b_min (by decide +kernel) (pa_cons (pe_lc (own := [("_law_k", 4)]) rfl nd (piLK K (pv 2)) (blkOk_by (own := [("_law_k", 4)]) (N := n_law_least) (sc := defScope s_law_least) (by decide +kernel)) (fun _ _ _ _ _ => (pg_name (i := 4) nd rfl (Or.inl rfl))) (fun _ _ _ _ _ => pts_nil) (fun _ _ _ _ _ => (pe_ix (ixTK K) (pv 0) (pv 4) (fun _ _ => rfl)))) pa_nil)))
        (pss_one (ps_ret (pe_ix (ixLK K) (pe_lc (own := [("_law_k", 4)]) rfl nd (piLK K (pv 2)) (blkOk_by (own := [("_law_k", 4)]) (N := n_law_least) (sc := defScope s_law_least) (by decide +kernel)) (fun _ _ _ _ _ => (pg_name (i := 4) nd rfl (Or.inl rfl))) (fun _ _ _ _ _ => (pts_one (pt_cmpR op_eq (pe_ix (ixTK K) (pv 0) (pv 4) (fun _ _ => rfl)) (pv 3) (nomark _)))) (fun _ _ _ _ _ => (pv 4))) (pe_ix (ixLK K) (pe_lst (pa_cons pe_int (pa_cons (pe_un un_neg pe_int) pa_nil))) (pe_callTy call_int1 (by rfl) T.b_int (by decide +kernel) (pa_cons (pe_cmpR op_eq (pv 1) pe_str (nomark _)) pa_nil)) (fun _ _ => rfl)) (fun _ _ => rfl))))))), ?_⟩
    have hlen : (row.map ov).length = row.length := List.length_map _
    refine ⟨.ref a, rfl, a, row.map ov, rfl, .inr hS, _, rfl, by omega, by omega, fun D nD => ?_⟩
    rw [hlen, show ((row.length : Nat) : Int).toNat = row.length from Int.toNat_natCast _]
    -- there
    refine lc_it walk_range (fun i H' => Kp [] H H' ∧ H' D = some (.lst (ivs ((List.range i).filter (isNum row))))) ⟨Kp.new nD, upd_same⟩ (fun _ _ _ _ => trivial) (fun i x H1 H2 hi hp hy => ?_) fun H1 hp => ?_
    · obtain ⟨kk, hD⟩ := hp
      obtain ⟨rfl, rfl⟩ := hy
      have hA : SqT K H2 a (row.map ov) := kk.t (by simp) hS
      have hr0 : row[i]? = some row[i] := List.getElem?_eq_getElem hi
      refine ⟨rfl, .ref a, rfl, .int (0 + (i : Nat)), rfl, a, _, _, ov row[i], rfl, rfl, hA, ?_, rfl, ?_⟩
      · rw [Int.zero_add]
        exact atI_nat (at_ov hr0)
      cases hri : row[i] with
      | none =>
        refine ⟨_, rfl, iteF ⟨kk, ?_⟩⟩
        rw [filt_succ, isNum_no (by rw [hr0, hri])]
        simpa using hD
      | some n =>
        refine ⟨_, rfl, iteT ?_⟩
        refine ⟨.int (0 + (i : Nat)), rfl, _, hD, Nat.lt_of_le_of_lt (show _ ≤ 1000 by rw [List.length_map]; have := filt_len i (isNum row); omega) (by decide), kk.mut nD, ?_⟩
        rw [filt_succ, isNum_of (by rw [hr0, hri]), upd_same]
        simp [ivs]
    obtain ⟨k1, hD⟩ := hp
    generalize hth : (List.range row.length).filter (isNum row) = th at hD
    have thm : ∀ j, j ∈ th ↔ j < row.length ∧ isNum row j = true := fun j => by rw [← hth]; exact filt_mem
    have thl : th.length ≤ row.length := by rw [← hth]; exact filt_len _ _
    -- if there == []
    refine ⟨.ref D, rfl, Nat.zero_le _, fun p np => ?_⟩
    have kp1 : Kp [] H1 (upd H1 p (.lst [])) := Kp.new np
    have k2 : Kp [] H (upd H1 p (.lst [])) := k1.trans kp1
    have hD2 := kp1 D _ (by simp) hD
    have hA2 : SqT K (upd H1 p (.lst [])) a (row.map ov) := k2.t (by simp) hS
    have hp2 : upd H1 p (.lst []) p = some (.lst []) := upd_same
    generalize upd H1 p (.lst []) = H2 at k2 hD2 hA2 hp2
    rw [ivs_ints] at hD2
    refine ⟨_, _, .lst (lOf hD2) (dpAll_ints _), .lst (lOf hp2) .nil, shaped_ints _, rfl, _, rfl, ?_⟩
    rw [eqv_nil]
    rw [← ivs_ints] at hD2
    cases hth2 : th with
    | nil =>
      refine iteT ?_
      refine q _ _ (.inl ⟨rfl, fun j y hj hy => ?_⟩) k2
      have := (thm j).mpr ⟨hj, isNum_of hy⟩
      rw [hth2] at this
      cases this
    | cons t0 tr =>
      refine iteF ?_
      have thpos : 0 < th.length := by rw [hth2]; simp
      -- best
      refine ⟨.ref D, rfl, D, rfl, ⟨_, lOf hD2⟩, fun D2 nD2 => ?_⟩
      refine lc_it (walk_list (xs := ivs th)) (fun i H' => Kp [] H2 H' ∧ ∃ xs : List Int, H' D2 = some (.lst (xs.map V.int)) ∧ xs.length = i ∧ (∀ y, y ∈ xs ↔ ∃ (m j : Nat), m < i ∧ th[m]? = some j ∧ row[j]? = some (some y))) ⟨Kp.new nD2, [], upd_same, rfl, fun y => ⟨fun z => (by cases z), fun ⟨_, _, z, _⟩ => absurd z (Nat.not_lt_zero _)⟩⟩ (fun i H' hi hp => hp.1.l (by simp) (lOf hD2)) (fun i x H3 H4 hi hp hy => ?_) fun H3 hp => ?_
      · obtain ⟨kk, xs, hx, hxl, hxm⟩ := hp
        obtain ⟨rfl, hyx⟩ := hy
        rw [List.length_map] at hi
        have hj : th[i]? = some th[i] := List.getElem?_eq_getElem hi
        rw [List.getElem?_map, hj] at hyx
        have ex : x = .int (th[i] : Nat) := (Option.some.inj hyx).symm
        subst ex
        obtain ⟨hjl, hjn⟩ := (thm th[i]).mp (List.getElem_mem hi)
        obtain ⟨n, hn⟩ := isNum_to hjn
        refine ⟨rfl, .ref a, rfl, .int (th[i] : Nat), rfl, a, _, _, .int n, rfl, rfl, kk.t (by simp) hA2, atI_nat (at_ov hn), _, hx, Nat.lt_of_le_of_lt (show _ ≤ 1000 by rw [List.length_map]; omega) (by decide), kk.mut nD2, xs ++ [n], ?_, ?_, ?_⟩
        · rw [upd_same, List.map_append]; rfl
        · rw [List.length_append, hxl]; rfl
        · intro y
          rw [List.mem_append, hxm y]
          constructor
          · rintro (⟨m, j, z1, z2, z3⟩ | z)
            · exact ⟨m, j, by omega, z2, z3⟩
            · rw [List.mem_singleton.mp z]
              exact ⟨i, th[i], by omega, hj, hn⟩
          · rintro ⟨m, j, z1, z2, z3⟩
            by_cases hm : m = i
            · subst hm
              rw [hj] at z2
              cases z2
              rw [hn] at z3
              cases z3
              exact .inr (by simp)
            · exact .inl ⟨m, j, by omega, z2, z3⟩
      obtain ⟨k3, xs, hx, hxl, hxm⟩ := hp
      rw [List.length_map] at hxl hxm
      refine ⟨D2, xs, rfl, lOf hx, by omega, fun best hb1 hb2 => ?_⟩
      have hD3 := k3 D _ (by simp) hD2
      have hA3 : SqT K H3 a (row.map ov) := k3.t (by simp) hA2
      have bestle : ∀ (j : Nat) (y : Int), j < row.length → row[j]? = some (some y) → best ≤ y := fun j y hj hy => by
        obtain ⟨m, hm, em⟩ := List.getElem_of_mem ((thm j).mpr ⟨hj, isNum_of hy⟩)
        exact hb2 y ((hxm y).mpr ⟨m, j, hm, by rw [List.getElem?_eq_getElem hm, em], hy⟩)
      obtain ⟨bm, bj, _, hbj, hbrow⟩ := (hxm best).mp hb1
      have hbjm : bj ∈ th := List.mem_of_getElem? hbj
      have hbjl := ((thm bj).mp hbjm).1
      -- the places of the best
      let pb : Nat → Bool := fun j => decide (row[j]? = some (some best))
      have hfil : th.filter pb = (List.range row.length).filter pb := by
        rw [← hth, List.filter_filter]
        refine List.filter_congr fun j hj => ?_
        cases hpb : pb j with
        | false => simp
        | true => simp [isNum_of (of_decide_eq_true hpb)]
      refine ⟨.ref D, rfl, D, rfl, ⟨_, lOf hD3⟩, fun D4 nD4 => ?_⟩
      refine lc_it (walk_list (xs := ivs th)) (fun i H' => Kp [] H3 H' ∧ H' D4 = some (.lst (ivs ((th.take i).filter pb)))) ⟨Kp.new nD4, upd_same⟩ (fun i H' hi hp => hp.1.l (by simp) (lOf hD3)) (fun i x H5 H6 hi hp hy => ?_) fun H5 hp => ?_
      · obtain ⟨kk, hx4⟩ := hp
        obtain ⟨rfl, hyx⟩ := hy
        rw [List.length_map] at hi
        have hj : th[i]? = some th[i] := List.getElem?_eq_getElem hi
        rw [List.getElem?_map, hj] at hyx
        have ex : x = .int (th[i] : Nat) := (Option.some.inj hyx).symm
        subst ex
        obtain ⟨hjl, hjn⟩ := (thm th[i]).mp (List.getElem_mem hi)
        obtain ⟨n, hn⟩ := isNum_to hjn
        have htk : th.take (i + 1) = th.take i ++ [th[i]] := by rw [List.take_succ, hj]; rfl
        refine ⟨rfl, .ref a, rfl, .int (th[i] : Nat), rfl, a, _, _, .int n, rfl, rfl, kk.t (by simp) hA3, atI_nat (at_ov hn), .int best, rfl, rfl, _, rfl, ?_⟩
        by_cases e : n = best
        · subst e
          rw [decide_eq_true rfl]
          refine iteT ⟨.int (th[i] : Nat), rfl, _, hx4, Nat.lt_of_le_of_lt (show _ ≤ 1000 by
            rw [List.length_map]
            have z1 := List.length_filter_le pb (th.take i)
            have z2 := List.length_take_le i th
            omega) (by decide), kk.mut nD4, ?_⟩
          have hpb : pb th[i] = true := decide_eq_true hn
          rw [upd_same, htk, List.filter_append]
          simp [hpb, ivs]
        · rw [decide_eq_false (fun z => e (V.int.inj z))]
          refine iteF ⟨kk, ?_⟩
          have hpb : pb th[i] = false := decide_eq_false (fun z => e (by rw [hn] at z; cases z; rfl))
          rw [htk, List.filter_append]
          simpa [hpb] using hx4
      obtain ⟨k5, hx4⟩ := hp
      rw [List.length_map, List.take_length, hfil] at hx4
      have hne : (List.range row.length).filter pb ≠ [] := fun z => by
        have : bj ∈ (List.range row.length).filter pb := filt_mem.mpr ⟨hbjl, decide_eq_true hbrow⟩
        rw [z] at this
        cases this
      have kall : Kp [] H H5 := k2.trans (k3.trans k5)
      -- [0, -1][int(side == 'last')]
      refine ⟨1, rfl, (show (2 : Nat) ≤ sizeLine by decide), fun p6 np6 => ?_⟩
      have kp6 : Kp [] H5 (upd H5 p6 (.lst [.int 0, .int (-1)])) := Kp.new np6
      have hx6 := kp6 D4 _ (by simp) hx4
      refine ⟨.str (sideS last), rfl, rfl, .inr ⟨_, rfl, ?_⟩⟩
      rw [side_is]
      cases last with
      | true =>
        refine ⟨p6, _, _, .int (-1), rfl, rfl, lOf upd_same, atI_nat (j := 1) rfl, ?_⟩
        have hcat := (List.dropLast_concat_getLast hne).symm
        generalize hk : ((List.range row.length).filter pb).getLast hne = kl at hcat
        generalize ((List.range row.length).filter pb).dropLast = tl at hcat
        obtain ⟨f1, f2, f3⟩ := filt_last hcat
        refine ⟨D4, _, _, .int (kl : Nat), rfl, rfl, lOf hx6, ?_, ?_⟩
        · rw [hcat, ivs, List.map_append]
          exact atI_last _ _
        · refine q _ _ (.inr ⟨kl, rfl, f1, best, of_decide_eq_true f2, fun j y hj hy => ⟨bestle j y hj hy, fun e => ?_⟩⟩) (kall.trans kp6)
          subst e
          simp
          exact f3 j hj (decide_eq_true hy)
      | false =>
        refine ⟨p6, _, _, .int 0, rfl, rfl, lOf upd_same, atI_nat (j := 0) rfl, ?_⟩
        cases hcat : (List.range row.length).filter pb with
        | nil => exact (hne hcat).elim
        | cons kf tf =>
          obtain ⟨f1, f2, f3⟩ := filt_first hcat
          refine ⟨D4, _, _, .int (kf : Nat), rfl, rfl, lOf hx6, ?_, ?_⟩
          · rw [hcat]
            exact atI_nat (j := 0) rfl
          · refine q _ _ (.inr ⟨kf, rfl, f1, best, of_decide_eq_true f2, fun j y hj hy => ⟨bestle j y hj hy, fun e => ?_⟩⟩) (kall.trans kp6)
            subst e
            simp
            exact f3 j hj (decide_eq_true hy)
end
end K15

namespace K15
open PySem PySem.Spec PyProof.Rows L2 GenW BT
section
variable {P : Program} {w : World} {K : PySem.W.Frag} {mg : Str → Option Value} {base : Heap}
def RuleAt (H : Hp) (r : Addr) (xs ys : List Int) : Prop := ∃ xa ya : Addr, H r = some (.tup [.str "apart", .ref xa, .ref ya]) ∧ H xa = some (.tup (xs.map V.int)) ∧ H ya = some (.tup (ys.map V.int))
theorem RuleAt.kp {H H' : Hp} {r : Addr} {xs ys : List Int} {M : List Addr} (h : RuleAt H r xs ys) (k : Kp M H H') (n : NT M H) : RuleAt H' r xs ys := by
  obtain ⟨xa, ya, h1, h2, h3⟩ := h
  exact ⟨xa, ya, k _ _ (n.ni h1) h1, k _ _ (n.ni h2) h2, k _ _ (n.ni h3) h3⟩
theorem ne_ab : decide ((V.str (Str.ofString "apart")) = V.str (Str.ofString "both")) = false := by decide +kernel
theorem ne_ar : decide ((V.str (Str.ofString "apart")) = V.str (Str.ofString "rows")) = false := by decide +kernel
theorem ne_as : decide ((V.str (Str.ofString "apart")) = V.str (Str.ofString "short")) = false := by decide +kernel
theorem ne_aq : decide ((V.str (Str.ofString "apart")) = V.str (Str.ofString "square")) = false := by decide +kernel
def spBoth : Sp := fun vs H Q _ => ∃ (r : Addr) (xs ys : List Int), vs = [.ref r] ∧ RuleAt H r xs ys ∧ Q (.bl false) H
theorem ok_is_both (T : Txt K mg) {k : Nat} : FnOk P w K mg base CX0 (k + 1) T.is_both.f T.is_both.fd p_is_both spBoth := by
  refine T.is_both.F.ok sc_is_both (fun vs H Q E h => ?_) (fun cdv A outer s H vs Q E hr h => ?_)
  · obtain ⟨r, xs, ys, rfl, _⟩ := h
    rfl
  · obtain ⟨r, xs, ys, rfl, ⟨xa, ya, h1, _⟩, q⟩ := h
    refine ⟨_, (pss_one (ps_ret (pe_and (pe_callB (isiK K) (by rfl) T.b_isinstance (by decide +kernel) (pa_cons (pv 0) (pa_cons (pe_bltn (v := .ty "tuple") (by rfl) T.b_tuple (by decide +kernel) rfl) pa_nil))) (pe_and (pe_cmpR op_eq (pe_callB (lenK K) (by rfl) T.b_len PySem.boot_len (pa_cons (pv 0) pa_nil)) pe_int (nomark _)) (pe_one (pe_cmpR op_eq (pe_ix (ixTK K) (pv 0) pe_int (fun _ _ => rfl)) pe_str (nomark _))))))), ?_⟩
    refine ⟨.ref r, rfl, .ref r, .ty "tuple", _, _, true, rfl, .ty "tuple", .base (.tup h1), kit_ty (by decide +kernel), true, rfl, iteT ?_⟩
    refine ⟨.ref r, rfl, r, _, rfl, .inr (tOf h1), rfl, ?_⟩
    refine ⟨true, rfl, iteT ?_⟩
    refine ⟨.ref r, rfl, r, _, _, _, rfl, rfl, tOf h1, atI_nat (j := 0) rfl, rfl, ?_⟩
    rw [ne_ab]
    exact q
def spParts : Sp := fun vs H Q _ => ∃ (r : Addr) (xs ys : List Int), vs = [.ref r] ∧ RuleAt H r xs ys ∧ ∀ p H', H' p = some (.lst [.ref r]) → Kp [] H H' → Q (.ref p) H'
theorem ok_parts_of (T : Txt K mg) {k : Nat} : FnOk P w K mg base CX0 (k + 2) T.parts_of.f T.parts_of.fd p_parts_of spParts := by
  have G_is_both : FnOk P w K mg base CX0 1 T.is_both.f T.is_both.fd p_is_both spBoth := ok_is_both T
  refine T.parts_of.F.ok sc_parts_of (fun vs H Q E h => ?_) (fun cdv A outer s H vs Q E hr h => ?_)
  · obtain ⟨r, xs, ys, rfl, _⟩ := h
    rfl
  · obtain ⟨r, xs, ys, rfl, hR, q⟩ := h
    replace hr := hr.mono (show 1 ≤ k + 1 by omega)
    have nd := sc_parts_of.nd
    refine ⟨_, (pss_cons (ps_set (i := 1) nd rfl (Or.inl rfl) (pe_lst pa_nil))
        (pss_cons (ps_set (i := 2) nd rfl (Or.inl rfl) (pe_lst (pa_cons (pv 0) pa_nil)))
        (pss_cons (ps_while PassesOwn.never (pt_truth (pv 2) (by intro _; rfl)) (pss_cons (ps_set (i := 3) nd rfl (Or.inl rfl) (pe_bm0 PySem.F.plainAttrs_list PySem.F.slot_list_pop PySem.F.type_list_pop mt_pop (pv 2)))
        (pss_one (ps_if (pt_val (pe_call G_is_both (hr.mono (by decide)) (by rfl) T.is_both.g T.is_both.F.kp T.is_both.b .nil pass0 (pa_cons (pv 3) pa_nil))) pss_never (pss_one (ps_expr (pe_bm PySem.F.plainAttrs_list PySem.F.slot_list_append PySem.F.type_list_append mt_append (pv 1) (pa_cons (pv 3) pa_nil))))))))
        (pss_one (ps_ret (pv 1)))))), ?_⟩
    refine ⟨Nat.zero_le _, fun pa npa => ?_⟩
    have k1 : Kp [] H (upd H pa (.lst [])) := Kp.new npa
    have a1 : upd H pa (.lst []) pa = some (.lst []) := upd_same
    generalize upd H pa (.lst []) = H1 at k1 a1
    refine ⟨.ref r, rfl, (show (1 : Nat) ≤ sizeLine by decide), fun pw npw => ?_⟩
    have hne : pa ≠ pw := ne_of_none a1 npw
    have k2 : Kp [] H (upd H1 pw (.lst [.ref r])) := k1.trans (Kp.new npw)
    have a2 : upd H1 pw (.lst [.ref r]) pa = some (.lst []) := by rw [upd_ne hne]; exact a1
    have w2 : upd H1 pw (.lst [.ref r]) pw = some (.lst [.ref r]) := upd_same
    have npw0 : H pw = none := k1.back npw
    generalize upd H1 pw (.lst [.ref r]) = H2 at k2 a2 w2
    refine ⟨fun m σ H' => ∃ y3, σ = [some (.ref r), some (.ref pa), some (.ref pw), y3] ∧ Kp [] H H' ∧ ((m = 1 ∧ H' pa = some (.lst []) ∧ H' pw = some (.lst [.ref r])) ∨ (m = 0 ∧ H' pa = some (.lst [.ref r]) ∧ H' pw = some (.lst []))), ⟨1, none, rfl, k2, .inl ⟨rfl, a2, w2⟩⟩, fun m σ H' hW => ?_⟩
    obtain ⟨y3, rfl, kk, ⟨rfl, b1, b2⟩ | ⟨rfl, b1, b2⟩⟩ := hW
    · refine ⟨.ref pw, rfl, true, .inl ⟨_, lOf b2, rfl⟩, iteT ⟨fun σ' H'' => ∃ y3, σ' = [some (.ref r), some (.ref pa), some (.ref pw), y3] ∧ Kp [] H H'' ∧ H'' pa = some (.lst [.ref r]) ∧ H'' pw = some (.lst []), fun σ' H'' hN => ?_, ?_⟩⟩
      · obtain ⟨y, e1, e2, e3, e4⟩ := hN
        exact ⟨0, by decide, y, e1, e2, .inr ⟨rfl, e3, e4⟩⟩
      · refine ⟨.ref pw, rfl, .inl ⟨rfl, _, lOf b2⟩, pw, _, .ref r, rfl, rfl, b2, rfl, ?_⟩
        have k3 : Kp [] H (upd H' pw (.lst ([V.ref r].dropLast))) := kk.mut npw0
        have c1 : upd H' pw (.lst ([V.ref r].dropLast)) pa = some (.lst []) := by rw [upd_ne hne]; exact b1
        have c2 : upd H' pw (.lst ([V.ref r].dropLast)) pw = some (.lst []) := upd_same
        generalize upd H' pw (.lst ([V.ref r].dropLast)) = H3 at k3 c1 c2
        refine ⟨.ref r, rfl, r, xs, ys, rfl, hR.kp k3 NT.nil, false, rfl, iteF ?_⟩
        refine ⟨.ref pa, rfl, .inl ⟨rfl, _, lOf c1⟩, .ref r, rfl, pa, _, _, rfl, rfl, c1, by decide, ?_⟩
        refine ⟨_, rfl, k3.mut npa, ?_, ?_⟩
        · exact upd_same
        · rw [upd_ne hne.symm]
          exact c2
    · refine ⟨.ref pw, rfl, false, .inl ⟨_, lOf b2, rfl⟩, iteF ?_⟩
      exact ⟨.ref pa, rfl, q pa H' b1 kk⟩
def spPSize : Sp := fun vs H Q _ => ∃ (r : Addr) (xs ys : List Int), vs = [.ref r] ∧ RuleAt H r xs ys ∧ ∀ p H', H' p = some (.tup [.int xs.length, .int ys.length]) → Kp [] H H' → Q (.ref p) H'
theorem ok_plain_size (T : Txt K mg) {k : Nat} : FnOk P w K mg base CX0 (k + 1) T.plain_size.f T.plain_size.fd p_plain_size spPSize := by
  refine T.plain_size.F.ok sc_plain_size (fun vs H Q E h => ?_) (fun cdv A outer s H vs Q E hr h => ?_)
  · obtain ⟨r, xs, ys, rfl, _⟩ := h
    rfl
  · obtain ⟨r, xs, ys, rfl, ⟨xa, ya, h1, h2, h3⟩, q⟩ := h
    refine ⟨_, (pss_cons (ps_if (pt_cmpR op_eq (pe_ix (ixTK K) (pv 0) pe_int (fun _ _ => rfl)) pe_str (nomark _)) pss_never pss_nil)
        (pss_one (ps_ret (pe_tup (pa_cons (pe_callB (lenK K) (by rfl) T.b_len PySem.boot_len (pa_cons (pe_ix (ixTK K) (pv 0) pe_int (fun _ _ => rfl)) pa_nil)) (pa_cons (pe_callB (lenK K) (by rfl) T.b_len PySem.boot_len (pa_cons (pe_ix (ixTK K) (pv 0) pe_int (fun _ _ => rfl)) pa_nil)) pa_nil)))))), ?_⟩
    refine ⟨.ref r, rfl, r, _, _, _, rfl, rfl, tOf h1, atI_nat (j := 0) rfl, rfl, _, rfl, ?_⟩
    rw [ne_ar]
    refine iteF ?_
    refine ⟨.ref r, rfl, r, _, _, _, rfl, rfl, tOf h1, atI_nat (j := 1) rfl, xa, _, rfl, .inr (tOf h2), .ref r, rfl, r, _, _, _, rfl, rfl, tOf h1, atI_nat (j := 2) rfl, ya, _, rfl, .inr (tOf h3), (show (2 : Nat) ≤ sizeLine by decide), fun p np => ?_⟩
    refine q p _ ?_ (Kp.new np)
    rw [upd_same, List.length_map, List.length_map]
def gap (x y : Int) : Int := if x - y < 0 then -(x - y) else x - y
def spEntry : Sp := fun vs H Q _ => ∃ (r : Addr) (xs ys : List Int) (i j : Nat) (x y : Int), vs = [.ref r, .int i, .int j] ∧ RuleAt H r xs ys ∧ xs[i]? = some x ∧ ys[j]? = some y ∧ Q (.int (gap x y)) H
theorem ok_plain_entry (T : Txt K mg) {k : Nat} : FnOk P w K mg base CX0 (k + 1) T.plain_entry.f T.plain_entry.fd p_plain_entry spEntry := by
  refine T.plain_entry.F.ok sc_plain_entry (fun vs H Q E h => ?_) (fun cdv A outer s H vs Q E hr h => ?_)
  · obtain ⟨r, xs, ys, i, j, x, y, rfl, _⟩ := h
    rfl
  · obtain ⟨r, xs, ys, i, j, x, y, rfl, ⟨xa, ya, h1, h2, h3⟩, hx, hy, q⟩ := h
    have nd := sc_plain_entry.nd
    refine ⟨_, (pss_cons (ps_if (pt_cmpR op_eq (pe_ix (ixTK K) (pv 0) pe_int (fun _ _ => rfl)) pe_str (nomark _)) pss_never pss_nil)
        (pss_cons (ps_if (pt_cmpR op_eq (pe_ix (ixTK K) (pv 0) pe_int (fun _ _ => rfl)) pe_str (nomark _)) pss_never pss_nil)
        (pss_cons (ps_set (i := 4) nd rfl (Or.inl rfl) (pe_callB call_abs (by rfl) T.b_abs (by decide +kernel) (pa_cons (pe_op op_sub (pe_ix (ixTK K) (pe_ix (ixTK K) (pv 0) pe_int (fun _ _ => rfl)) (pv 1) (fun _ _ => rfl)) (pe_ix (ixTK K) (pe_ix (ixTK K) (pv 0) pe_int (fun _ _ => rfl)) (pv 2) (fun _ _ => rfl))) pa_nil)))
        (pss_one (ps_ret (pe_ifExp (pt_cmpR op_eq (pe_ix (ixTK K) (pv 0) pe_int (fun _ _ => rfl)) pe_str (nomark _)) (pe_op op_mul (pv 4) (pv 4)) (pv 4))))))), ?_⟩
    refine ⟨.ref r, rfl, r, _, _, _, rfl, rfl, tOf h1, atI_nat (j := 0) rfl, rfl, _, rfl, ?_⟩
    rw [ne_ar]
    refine iteF ?_
    refine ⟨.ref r, rfl, r, _, _, _, rfl, rfl, tOf h1, atI_nat (j := 0) rfl, rfl, _, rfl, ?_⟩
    rw [ne_as]
    refine iteF ?_
    have gx : (xs.map V.int)[i]? = some (.int x) := by rw [List.getElem?_map, hx]; rfl
    have gy : (ys.map V.int)[j]? = some (.int y) := by rw [List.getElem?_map, hy]; rfl
    refine ⟨.ref r, rfl, r, _, _, _, rfl, rfl, tOf h1, atI_nat (j := 1) rfl, .int i, rfl, xa, _, _, _, rfl, rfl, tOf h2, atI_nat gx, .ref r, rfl, r, _, _, _, rfl, rfl, tOf h1, atI_nat (j := 2) rfl, .int j, rfl, ya, _, _, _, rfl, rfl, tOf h3, atI_nat gy, x, y, rfl, rfl, _, rfl, ?_⟩
    refine ⟨.ref r, rfl, r, _, _, _, rfl, rfl, tOf h1, atI_nat (j := 0) rfl, rfl, _, rfl, ?_⟩
    rw [ne_aq]
    exact iteF ⟨_, rfl, q⟩
end
end K15

namespace K15
open PySem PySem.Spec PyProof.Rows L2 GenW BT
section
variable {P : Program} {w : World} {K : PySem.W.Frag} {mg : Str → Option Value} {base : Heap}
def genSc (i : Nat) (s : Stmt) : Scope := match (defBody s)[i]? with
  | some (.Return (some (.Call _ [.GeneratorExp _ _ sc _] _ _)) _) => sc
  | _ => { kind := .function, names := [], isGenerator := false, isCoroutine := false }
def rowsOf (xs ys : List Int) : List (List (Option Int)) := xs.map fun x => ys.map fun y => some (gap x y)
def spPT (Pt : Addr) : Sp := fun vs H Q _ => ∃ (r : Addr) (xs ys : List Int), vs = [.ref r] ∧ RuleAt H r xs ys ∧ xs.length ≤ 1000 ∧ ys.length ≤ 1000 ∧ TabG H Pt ∧ ∀ p H', TabAt H' p (rowsOf xs ys) → Kp [Pt] H H' → TabG H' Pt → Q (.ref p) H'
theorem ok_plain_table (T : Txt K mg) (TB : TabB base mg T.c_plain_table T.P_plain_table) {k : Nat} : FnOk P w K mg base CX0 (k + 8) T.plain_table.f T.plain_table.fd p_plain_table (spPT T.P_plain_table) := by
  have G_plain_size : FnOk P w K mg base CX0 1 T.plain_size.f T.plain_size.fd p_plain_size spPSize := ok_plain_size T
  have G_plain_entry : FnOk P w K mg base CX0 1 T.plain_entry.f T.plain_entry.fd p_plain_entry spEntry := ok_plain_entry T
  refine BT.Fun.okC T.plain_table.F T.h_plain_table sc_plain_table (fun vs H Q E h => ?_) (fun A outer s H vs Q E hr h => ?_)
  · obtain ⟨r, xs, ys, rfl, _⟩ := h
    rfl
  · obtain ⟨r, xs, ys, rfl, hR, hlx, hly, hG, q⟩ := h
    replace hr := hr.mono (show 7 ≤ k + 7 by omega)
    have nd := sc_plain_table.nd
    refine ⟨_, (pss_cons (ps_if (pt_cmpR op_eq (pe_ix (ixTK K) (pv 0) pe_int (fun _ _ => rfl)) pe_str (nomark _)) pss_never pss_nil)
        (pss_cons (ps_if (pt_cmpR op_eq (pe_ix (ixTK K) (pv 0) pe_int (fun _ _ => rfl)) pe_str (nomark _)) pss_never pss_nil)
        (pss_cons (ps_asg (pe_call G_plain_size (hr.mono (by decide)) (by rfl) T.plain_size.g T.plain_size.F.kp T.plain_size.b .nil pass0 (pa_cons (pv 0) pa_nil)) (pg_tup (by rfl) (pgs_cons (pg_name (i := 1) nd rfl (Or.inl rfl)) (pgs_cons (pg_name (i := 2) nd rfl (Or.inr rfl)) pgs_nil))))
        (pss_one (ps_ret (pe_tupG (k := 1) (js := [none, none, some 0, some 2]) (N := ["row", "column", "rule", "columns"]) (hr.mono (by decide)) TB rfl (gxOk_by (XN := n_plain_table) (xs := defScope s_plain_table) (by decide +kernel)) (pi_range1 (by rfl) T.b_range (pa_cons (pv 1) pa_nil)) (fun _ => rfl) (fun _ _ _ _ _ _ _ _ _ _ => (pg_name (i := 0) (show (["row", "column", "rule", "columns"] : List Str).Nodup by decide +kernel) rfl (Or.inr rfl))) (fun _ _ _ _ _ _ _ _ _ hrg => (pe_callTy (tupK K) (by rfl) T.b_tuple (by decide +kernel) (pa_cons (pe_lc (own := [("column", 1)]) rfl (show (["row", "column", "rule", "columns"] : List Str).Nodup by decide +kernel) (pi_range1 (by rfl) T.b_range (pa_cons (pv 3) pa_nil)) (blkOk_by (own := [("column", 1)]) (N := (["row", "column", "rule", "columns"] : List Str)) (sc := genSc 3 s_plain_table) (by decide +kernel)) (fun _ _ _ _ _ => (pg_name (i := 1) (show (["row", "column", "rule", "columns"] : List Str).Nodup by decide +kernel) rfl (Or.inl rfl))) (fun _ _ _ _ _ => pts_nil) (fun _ _ _ _ _ => (pe_call G_plain_entry (hrg.mono (by decide)) (by rfl) T.plain_entry.g T.plain_entry.F.kp T.plain_entry.b .nil pass0 (pa_cons (pv 2) (pa_cons (pv 0) (pa_cons (pv 1) pa_nil)))))) pa_nil))) (by rfl) T.b_tuple)))))), ?_⟩
    obtain ⟨xa, ya, h1, h2, h3⟩ := id hR
    refine ⟨.ref r, rfl, r, _, _, _, rfl, rfl, tOf h1, atI_nat (j := 0) rfl, rfl, _, rfl, ?_⟩
    rw [ne_ar]
    refine iteF ?_
    refine ⟨.ref r, rfl, r, _, _, _, rfl, rfl, tOf h1, atI_nat (j := 0) rfl, rfl, _, rfl, ?_⟩
    rw [ne_as]
    refine iteF ?_
    refine ⟨.ref r, rfl, r, xs, ys, rfl, hR, fun p H1 hp1 k1 => ?_⟩
    refine ⟨p, _, rfl, tOf hp1, rfl, .int xs.length, [.int ys.length], rfl, .int ys.length, [], rfl, rfl, ?_⟩
    have hG1 : TabG H1 T.P_plain_table := TabG.kp hG k1 (by simp)
    refine ⟨.int xs.length, rfl, _, rfl, by omega, by omega, hG1, fun H2 tb => ?_⟩
    have k2 : Kp [T.P_plain_table] H H2 := (k1.mono (by simp)).trans (Tabbed.kp tb)
    rw [show ((xs.length : Nat) : Int).toNat = xs.length from Int.toNat_natCast _]
    refine tup_it walk_range (fun us H' => Kp [T.P_plain_table] H H' ∧ TabG H' T.P_plain_table ∧ ∃ ps : List Addr, us = ps.map V.ref ∧ ∀ (i : Nat) b row, ps[i]? = some b → (rowsOf xs ys)[i]? = some row → H' b = some (.tup (row.map ov))) ⟨k2, tb.1, [], rfl, fun i b row e => by simp at e⟩ (fun _ _ _ _ => trivial) (fun us x H3 H4 hlt hp hy => ?_) fun us H3 p3 hlu hp np => ?_
    · obtain ⟨kk, tg, ps, rfl, hps⟩ := hp
      obtain ⟨rfl, rfl⟩ := hy
      rw [List.length_map] at hlt
      have hx := List.getElem?_eq_getElem hlt
      refine ⟨Le.set rfl, ?_⟩
      refine ⟨.int ys.length, rfl, _, rfl, by omega, by omega, fun D nD => ?_⟩
      rw [show ((ys.length : Nat) : Int).toNat = ys.length from Int.toNat_natCast _]
      refine lc_it walk_range (fun j H' => Kp [] H4 H' ∧ H' D = some (.lst (((ys.take j).map fun y => some (gap xs[ps.length] y)).map ov))) ⟨Kp.new nD, upd_same⟩ (fun _ _ _ _ => trivial) (fun j x H5 H6 hj hp5 hy5 => ?_) fun H5 hp5 => ?_
      · obtain ⟨k5, h5⟩ := hp5
        obtain ⟨rfl, rfl⟩ := hy5
        have hyj := List.getElem?_eq_getElem hj
        have hRR : RuleAt H6 r xs ys := (hR.kp kk (NT.tab hG)).kp k5 NT.nil
        refine ⟨rfl, .ref r, rfl, .int (0 + (ps.map V.ref).length), rfl, .int (0 + (j : Nat)), rfl, r, xs, ys, ps.length, j, xs[ps.length], ys[j], ?_, hRR, hx, hyj, _, h5, Nat.lt_of_le_of_lt (show _ ≤ 1000 by
            rw [List.length_map, List.length_map]
            have z := List.length_take_le j ys
            omega) (by decide), k5.mut nD, ?_⟩
        · rw [Int.zero_add, Int.zero_add, List.length_map]
          rfl
        · have et : ys.take (j + 1) = ys.take j ++ [ys[j]] := by rw [List.take_succ, hyj]; rfl
          rw [upd_same, et, List.map_append, List.map_append]
          rfl
      · obtain ⟨k5, h5⟩ := hp5
        rw [List.take_length] at h5
        refine ⟨D, _, rfl, .inl ⟨lOf h5, fun l nl => ?_⟩⟩
        have k6 : Kp [T.P_plain_table] H (upd H5 l (.tup ((ys.map fun y => some (gap xs[ps.length] y)).map ov))) := (kk.trans (k5.mono (by simp))).trans (Kp.new nl)
        refine ⟨?_, ?_, k6, TabG.kp (TabG.kp tg k5 (by simp)) (Kp.new (M := []) nl) (by simp), ps ++ [l], by simp, fun i b row e1 e2 => ?_⟩
        · rw [List.length_map]
          exact Nat.lt_of_le_of_lt (show ps.length ≤ 1000 by omega) (by decide)
        · rw [List.length_append, List.length_map]
          exact hlt
        · by_cases hi : i < ps.length
          · rw [List.getElem?_append_left hi] at e1
            have z := hps i b row e1 e2
            have z2 := k5 b _ (by simp) z
            exact (Kp.new (M := []) nl) b _ (by simp) z2
          · have hil : i < (ps ++ [l]).length := (List.getElem?_eq_some_iff.mp e1).1
            rw [List.length_append] at hil
            have ei : i = ps.length := by simp at hil; omega
            subst ei
            rw [List.getElem?_append_right (Nat.le_refl _), Nat.sub_self] at e1
            cases e1
            unfold rowsOf at e2
            rw [List.getElem?_map, hx] at e2
            cases e2
            exact upd_same
    · obtain ⟨kk, tg, ps, rfl, hps⟩ := hp
      rw [List.length_map] at hlu
      refine q p3 _ ⟨ps, upd_same, by rw [hlu, rowsOf, List.length_map], fun i b row e1 e2 => (Kp.new (M := []) np) b _ (by simp) (hps i b row e1 e2)⟩ (kk.trans (Kp.new np)) (TabG.kp tg (Kp.new (M := []) np) (by simp))
theorem ok_table_by (T : Txt K mg) (TB : TabB base mg T.c_plain_table T.P_plain_table) {k : Nat} : FnOk P w K mg base CX0 (k + 9) T.table_by.f T.table_by.fd p_table_by (spPT T.P_plain_table) := by
  have G_parts_of : FnOk P w K mg base CX0 2 T.parts_of.f T.parts_of.fd p_parts_of spParts := ok_parts_of T
  have G_plain_table : FnOk P w K mg base CX0 8 T.plain_table.f T.plain_table.fd p_plain_table (spPT T.P_plain_table) := ok_plain_table T TB
  refine T.table_by.F.ok sc_table_by (fun vs H Q E h => ?_) (fun cdv A outer s H vs Q E hr h => ?_)
  · obtain ⟨r, xs, ys, rfl, _⟩ := h
    rfl
  · obtain ⟨r, xs, ys, rfl, hR, hlx, hly, hG, q⟩ := h
    replace hr := hr.mono (show 8 ≤ k + 8 by omega)
    have nd := sc_table_by.nd
    refine ⟨_, (pss_cons (ps_set (i := 1) nd rfl (Or.inl rfl) (pe_call G_parts_of (hr.mono (by decide)) (by rfl) T.parts_of.g T.parts_of.F.kp T.parts_of.b .nil pass0 (pa_cons (pv 0) pa_nil)))
        (pss_cons (ps_set (i := 2) nd rfl (Or.inl rfl) (pe_call G_plain_table (hr.mono (by decide)) (by rfl) T.plain_table.g T.plain_table.F.kp T.plain_table.b .nil pass0 (pa_cons (pe_ix (ixLK K) (pv 1) pe_int (fun _ _ => rfl)) pa_nil)))
        (pss_cons (ps_for PassesOwn.never rfl (piLK K (pe_slice (slLK K) (pv 1) (po_some pe_int) po_none)) (pg_name (i := 3) nd rfl (Or.inl rfl)) pss_never)
        (pss_one (ps_ret (pv 2)))))), ?_⟩
    refine ⟨.ref r, rfl, r, xs, ys, rfl, hR, fun p H1 hp1 k1 => ?_⟩
    refine ⟨.ref p, rfl, p, _, _, .ref r, rfl, rfl, lOf hp1, atI_nat (j := 0) rfl, r, xs, ys, rfl, hR.kp k1 NT.nil, hlx, hly, TabG.kp hG k1 (by simp), fun t H2 ht k2 tg => ?_⟩
    have hpn : p ∉ [T.P_plain_table] := fun z => by
      obtain ⟨ps, z1, _⟩ := TabG.kp hG k1 (by simp)
      rw [List.mem_singleton.mp z, z1] at hp1
      cases hp1
    have hp2 := k2 p _ hpn hp1
    refine ⟨.ref p, rfl, 1, rfl, p, _, rfl, lOf hp2, fun l nl => ?_⟩
    refine ⟨l, rfl, ⟨_, lOf upd_same⟩, ?_⟩
    have hcut : cutV [V.ref r] (some 1) none = [] := rfl
    rw [hcut]
    refine for_it (walk_list (xs := [])) (fun i σ H' => σ = [some (.ref r), some (.ref p), some (.ref t), none] ∧ H' = upd H2 l (.lst [])) ⟨rfl, rfl⟩ (fun i σ H' hi hp => by rw [hp.2]; exact lOf upd_same) (fun i x σ H' H'' hi => absurd hi (Nat.not_lt_zero _)) fun σ H' hp => ?_
    obtain ⟨rfl, rfl⟩ := hp
    refine ⟨.ref t, rfl, q t _ (ht.kp (Kp.new nl) NT.nil) (((k1.mono (by simp)).trans k2).trans (Kp.new nl)) (TabG.kp tg (Kp.new (M := []) nl) (by simp))⟩
end
end K15

namespace K15
open PySem PySem.Spec PyProof.Rows L2 GenW BT
section
variable {P : Program} {w : World} {K : PySem.W.Frag} {mg : Str → Option Value} {base : Heap}
def spDeck (K : PySem.W.Frag) : Sp := fun vs H Q _ => ∃ (a : Addr) (ns : List Int), vs = [.ref a] ∧ SqL K H a (ns.map V.int) ∧ ns.length ≤ 63 ∧ ∀ d c H', Dk d c H' → Kp [] H H' → H d = none → H c = none → Q (.ref d) H'
theorem ok_law_deck (T : Txt K mg) {k : Nat} : FnOk P w K mg base CX0 (k + 1) T.law_deck.f T.law_deck.fd p_law_deck (spDeck K) := by
  refine T.law_deck.F.ok sc_law_deck (fun vs H Q E h => ?_) (fun cdv A outer s H vs Q E hr h => ?_)
  · obtain ⟨a, ns, rfl, _⟩ := h
    rfl
  · obtain ⟨a, ns, rfl, hS, hl, q⟩ := h
    have nd := sc_law_deck.nd
    refine ⟨_, (pss_cons (ps_set (i := 1) nd rfl (Or.inl rfl) (pe_callTy (lisK K) (by rfl) T.b_list (by decide +kernel) (pa_cons (pe_slice (slLK K) (pv 0) po_none (po_some pe_int)) pa_nil)))
        (pss_cons (ps_set (i := 2) nd rfl (Or.inl rfl) pe_int)
        (pss_cons (ps_for PassesOwn.never rfl (piLK K (pv 1)) (pg_name (i := 3) nd rfl (Or.inl rfl)) (pss_one (ps_set (i := 2) nd rfl (Or.inl rfl) (pe_op op_mod (pe_op op_add (pe_op op_add (pe_op op_mul (pv 2) pe_int) (pe_op op_mod (pv 3) pe_int)) pe_int) pe_int))))
        (pss_one (ps_ret (pe_disp (pps_cons pe_str (pe_revL (pv 1)) (pps_cons pe_str (pv 2) (pps_cons pe_str pe_int pps_nil))) (by rfl) (by rfl) (fun z => by cases z) (by decide))))))), ?_⟩
    refine ⟨.ref a, rfl, 63, rfl, a, _, rfl, hS, fun p np => ⟨p, _, rfl, .inl (lOf upd_same), fun l nl0 => ?_⟩⟩
    have hcut : cutV (ns.map V.int) none (some 63) = ns.map V.int := (cut_to _ 63).trans (List.take_of_length_le (by rw [List.length_map]; exact hl))
    have nl : upd H p (.lst (ns.map V.int)) l = none := by rw [← hcut]; exact nl0
    rw [hcut]
    have k1 : Kp [] H (upd (upd H p (.lst (ns.map V.int))) l (.lst (ns.map V.int))) := (Kp.new np).trans (Kp.new nl)
    have l1 : upd (upd H p (.lst (ns.map V.int))) l (.lst (ns.map V.int)) l = some (.lst (ns.map V.int)) := upd_same
    generalize upd (upd H p (.lst (ns.map V.int))) l (.lst (ns.map V.int)) = H1 at k1 l1
    refine ⟨.ref l, rfl, l, rfl, ⟨_, lOf l1⟩, ?_⟩
    refine for_it (walk_list (xs := ns.map V.int)) (fun i σ H' => ∃ (sd : Int) (y3 : Option V), σ = [some (.ref a), some (.ref l), some (.int sd), y3] ∧ H' = H1) ⟨11, none, rfl, rfl⟩ (fun i σ H' hi hp => by obtain ⟨_, _, _, rfl⟩ := hp; exact lOf l1) (fun i x σ H' H'' hi hp hy => ?_) fun σ H' hp => ?_
    · obtain ⟨sd, y3, rfl, rfl⟩ := hp
      obtain ⟨rfl, hx⟩ := hy
      rw [List.getElem?_map] at hx
      obtain ⟨n, rfl⟩ : ∃ n, x = .int n := by
        cases e : ns[i]? with
        | none => rw [e] at hx; cases hx
        | some n => rw [e] at hx; exact ⟨n, (Option.some.inj hx).symm⟩
      refine ⟨.int sd, rfl, _, _, rfl, rfl, cmulR (by decide) (by decide), .int n, rfl, _, _, rfl, rfl, (show (0 : Int) < 2147483587 by decide), _, _, rfl, rfl, _, _, rfl, rfl, _, _, rfl, rfl, (show (0 : Int) < 2147483629 by decide), ?_⟩
      exact ⟨_, _, rfl, rfl⟩
    · obtain ⟨sd, y3, rfl, rfl⟩ := hp
      intro d nd1
      have k2 : Kp [] H (upd H' d (.dK [])) := k1.trans (Kp.new nd1)
      refine ⟨.ref l, rfl, l, _, rfl, lOf ((Kp.new (M := []) nd1) l _ (by simp) l1), fun c nc => ?_⟩
      have hdc : d ≠ c := ne_of_none (upd_same (H := H') (a := d)) nc
      refine ⟨.int sd, rfl, ?_⟩
      refine ⟨by rw [upd_ne hdc, upd_same], [(.inr "cells", .ref c), (.inr "seed", .int sd), (.inr "at", .int 0)], rfl, by show 3 ≤ 15; decide, ?_⟩
      have em : mergeK [] [((.inr "cells" : Key), V.ref c), (.inr "seed", .int sd), (.inr "at", .int 0)] = dkv c sd 0 := by
        have e1 : ¬ Str.ofString "cells" = Str.ofString "seed" := by decide +kernel
        have e2 : ¬ Str.ofString "cells" = Str.ofString "at" := by decide +kernel
        have e3 : ¬ Str.ofString "seed" = Str.ofString "at" := by decide +kernel
        simp [mergeK, putK, e1, e2, e3, dkv]
      rw [em]
      refine q d c _ ⟨ns.reverse, sd, 0, upd_same, ?_, by rw [List.length_reverse]; exact hl⟩ ?_ (k1.back nd1) (k2.back nc)
      · rw [upd_ne hdc.symm, upd_same, List.map_reverse]
      · exact (k2.trans (Kp.new nc)).mut (k1.back nd1)
end
end K15

namespace K15
open PySem PySem.Spec PyProof.Rows L2 GenW BT
section
variable {P : Program} {w : World} {K : PySem.W.Frag} {mg : Str → Option Value} {base : Heap}
def spTable : Sp := fun vs H Q _ => ∃ (d c : Addr), vs = [.ref d] ∧ Dk d c H ∧ ∀ p rows H', TabAt H' p rows → rows.length ≤ 12 → (∀ row ∈ rows, row.length ≤ 12) → Dk d c H' → Kp [d, c] H H' → Q (.ref p) H'
theorem ok_law_table (T : Txt K mg) {k : Nat} : FnOk P w K mg base CX0 (k + 3) T.law_table.f T.law_table.fd p_law_table spTable := by
  have G_law_draw : FnOk P w K mg base CX0 1 T.law_draw.f T.law_draw.fd p_law_draw spDraw := ok_draw T
  have G_law_size : FnOk P w K mg base CX0 2 T.law_size.f T.law_size.fd p_law_size spSize := ok_size T
  refine T.law_table.F.ok sc_law_table (fun vs H Q E h => ?_) (fun cdv A outer s H vs Q E hr h => ?_)
  · obtain ⟨d, c, rfl, _⟩ := h
    rfl
  · obtain ⟨d, c, rfl, hD, q⟩ := h
    replace hr := hr.mono (show 2 ≤ k + 2 by omega)
    have nd := sc_law_table.nd
    refine ⟨_, (pss_cons (ps_set (i := 1) nd rfl (Or.inl rfl) (pe_call G_law_draw (hr.mono (by decide)) (by rfl) T.law_draw.g T.law_draw.F.kp T.law_draw.b .nil pass0 (pa_cons (pv 0) (pa_cons pe_int pa_nil))))
        (pss_cons (ps_set (i := 2) nd rfl (Or.inl rfl) (pe_ix (ixLK K) (pe_lst (pa_cons pe_int (pa_cons pe_int (pa_cons pe_int (pa_cons pe_int pa_nil))))) (pe_call G_law_draw (hr.mono (by decide)) (by rfl) T.law_draw.g T.law_draw.F.kp T.law_draw.b .nil pass0 (pa_cons (pv 0) (pa_cons pe_int pa_nil))) (fun _ _ => rfl)))
        (pss_cons (ps_set (i := 3) nd rfl (Or.inl rfl) (pe_op op_mul (pe_call G_law_draw (hr.mono (by decide)) (by rfl) T.law_draw.g T.law_draw.F.kp T.law_draw.b .nil pass0 (pa_cons (pv 0) (pa_cons (pe_op op_pow pe_int pe_int) pa_nil))) (pe_op op_sub (pe_call G_law_draw (hr.mono (by decide)) (by rfl) T.law_draw.g T.law_draw.F.kp T.law_draw.b .nil pass0 (pa_cons (pv 0) (pa_cons pe_int pa_nil))) pe_int)))
        (pss_cons (ps_set (i := 4) nd rfl (Or.inl rfl) (pe_call G_law_size (hr.mono (by decide)) (by rfl) T.law_size.g T.law_size.F.kp T.law_size.b .nil pass0 (pa_cons (pv 0) pa_nil)))
        (pss_cons (ps_set (i := 5) nd rfl (Or.inl rfl) (pe_call G_law_size (hr.mono (by decide)) (by rfl) T.law_size.g T.law_size.F.kp T.law_size.b .nil pass0 (pa_cons (pv 0) pa_nil)))
        (pss_cons (ps_set (i := 6) nd rfl (Or.inl rfl) (pe_lst pa_nil))
        (pss_cons (ps_for PassesOwn.never rfl (pi_range1 (by rfl) T.b_range (pa_cons (pv 4) pa_nil)) (pg_name (i := 7) nd rfl (Or.inl rfl)) (Evl.pss_cut (ps_set (i := 8) nd rfl (Or.inl rfl) (pe_and (pe_cmpR op_gt (pv 2) pe_int (nomark _)) (pe_one (pe_cmpR op_eq (pe_call G_law_draw (hr.mono (by decide)) (by rfl) T.law_draw.g T.law_draw.F.kp T.law_draw.b .nil pass0 (pa_cons (pv 0) (pa_cons pe_int pa_nil))) pe_int (nomark _)))))
        (pss_cons (ps_set (i := 9) nd rfl (Or.inl rfl) (pe_lst pa_nil))
        (pss_cons (ps_for PassesOwn.never rfl (pi_range1 (by rfl) T.b_range (pa_cons (pv 5) pa_nil)) (pg_name (i := 10) nd rfl (Or.inl rfl)) (pss_cons (ps_set (i := 11) nd rfl (Or.inl rfl) (pe_op op_mul (pe_op op_sub (pe_call G_law_draw (hr.mono (by decide)) (by rfl) T.law_draw.g T.law_draw.F.kp T.law_draw.b .nil pass0 (pa_cons (pv 0) (pa_cons pe_int pa_nil))) pe_int) (pe_op op_pow pe_int pe_int)))
        (pss_cons (ps_set (i := 12) nd rfl (Or.inl rfl) (pe_ix (ixLK K) (pe_lst (pa_cons (pe_call G_law_draw (hr.mono (by decide)) (by rfl) T.law_draw.g T.law_draw.F.kp T.law_draw.b .nil pass0 (pa_cons (pv 0) (pa_cons pe_int pa_nil))) (pa_cons (pe_op op_sub (pe_call G_law_draw (hr.mono (by decide)) (by rfl) T.law_draw.g T.law_draw.F.kp T.law_draw.b .nil pass0 (pa_cons (pv 0) (pa_cons pe_int pa_nil))) pe_int) (pa_cons (pv 3) (pa_cons (pv 11) pa_nil))))) (pv 1) (fun _ _ => rfl)))
        (pss_one (ps_expr (pe_bm PySem.F.plainAttrs_list PySem.F.slot_list_append PySem.F.type_list_append mt_append (pv 9) (pa_cons (pe_ix (ixLK K) (pe_lst (pa_cons (pv 12) (pa_cons pe_non pa_nil))) (pe_callTy call_int1 (by rfl) T.b_int (by decide +kernel) (pa_cons (pe_or (pv 8) (pe_one (pe_cmpR op_lt (pe_call G_law_draw (hr.mono (by decide)) (by rfl) T.law_draw.g T.law_draw.F.kp T.law_draw.b .nil pass0 (pa_cons (pv 0) (pa_cons pe_int pa_nil))) (pv 2) (nomark _)))) pa_nil)) (fun _ _ => rfl)) pa_nil)))))))
        (pss_one (ps_expr (pe_bm PySem.F.plainAttrs_list PySem.F.slot_list_append PySem.F.type_list_append mt_append (pv 6) (pa_cons (pe_callTy (tupK K) (by rfl) T.b_tuple (by decide +kernel) (pa_cons (pv 9) pa_nil)) pa_nil))))))))
        (pss_one (ps_ret (pe_callTy (tupK K) (by rfl) T.b_tuple (by decide +kernel) (pa_cons (pv 6) pa_nil))))))))))), ?_⟩
    -- sort
    refine ⟨.ref d, rfl, d, c, 4, rfl, hD, by decide, by decide, fun sort H1 s0 s1 D1 k1 => ?_⟩
    -- holes
    refine ⟨(show (4 : Nat) ≤ sizeLine by decide), fun p2 n2 => ?_⟩
    have ni2 := D1.ni n2
    refine ⟨.ref d, rfl, d, c, 4, rfl, D1.new n2, by decide, by decide, fun hx H2 x0 x1 D2 k2 => ?_⟩
    obtain ⟨holes, hholes⟩ := at4 (a := 0) (b := 0) (c := 1) (e := 5) x0 x1
    refine ⟨p2, _, _, .int holes, rfl, rfl, lOf (k2 p2 _ ni2 upd_same), hholes, ?_⟩
    have kk2 : Kp [d, c] H H2 := (k1.trans (Kp.new n2)).trans k2
    -- same
    refine ⟨.ref d, rfl, 10, 6, rfl, rfl, ⟨by decide, by decide, by decide⟩, d, c, _, rfl, D2, by decide, by decide, fun sa H3 a0 a1 D3 k3 => ?_⟩
    rw [p6] at a1
    refine ⟨.ref d, rfl, d, c, 1999, rfl, D3, by decide, by decide, fun sb H4 b0 b1 D4 k4 => ?_⟩
    refine ⟨sb, 999, rfl, rfl, sa, _, rfl, rfl, cmulL (by omega) (by omega), ?_⟩
    -- many, wide
    refine ⟨.ref d, rfl, d, c, rfl, D4, fun many H5 m0 m1 D5 k5 => ?_⟩
    refine ⟨.ref d, rfl, d, c, rfl, D5, fun wide H6 w0 w1 D6 k6 => ?_⟩
    have kk6 : Kp [d, c] H H6 := (((kk2.trans k3).trans k4).trans k5).trans k6
    -- rows = []
    refine ⟨Nat.zero_le _, fun R nR => ?_⟩
    have niR := D6.ni nR
    dsimp only
    refine ⟨.int many, rfl, many, rfl, by omega, by omega, ?_⟩
    refine for_it walk_range (fun i σ H' => ∃ (y7 y8 y9 y10 y11 y12 : Option V) (ps : List Addr) (rows : List (List (Option Int))), σ = [some (.ref d), some (.int sort), some (.int holes), some (.int (sa * (sb - 999))), some (.int many), some (.int wide), some (.ref R), y7, y8, y9, y10, y11, y12] ∧
      Dk d c H' ∧ Kp [d, c] H6 H' ∧ H' R = some (.lst (ps.map V.ref)) ∧ ps.length = i ∧ rows.length = i ∧ (∀ row ∈ rows, row.length ≤ 12) ∧ ∀ (i : Nat) b row, ps[i]? = some b → rows[i]? = some row → H' b = some (.tup (row.map ov)))
      ⟨none, none, none, none, none, none, [], [], rfl, D6.new nR, Kp.new nR, upd_same, rfl, rfl, fun _ z => (by cases z), fun i b row e => by simp at e⟩ (fun _ _ _ _ _ => trivial) (fun i x σ Ha Hb hi hp hy => ?_) fun σ Ha hp => ?_
    · obtain ⟨y7, y8, y9, y10, y11, y12, ps, rows, rfl, DA, kA, RA, lp, lr, hrw, hps⟩ := hp
      obtain ⟨rfl, rfl⟩ := hy
      -- bare, with a word behind it
      refine ⟨fun σ' H' => ∃ bare : Bool, σ' = [some (.ref d), some (.int sort), some (.int holes), some (.int (sa * (sb - 999))), some (.int many), some (.int wide), some (.ref R), some (.int (0 + (i : Nat))), some (.bl bare), y9, y10, y11, y12] ∧ Dk d c H' ∧ Kp [d, c] Hb H', ?_, ?_⟩
      · refine ⟨.int holes, rfl, holes, 0, rfl, rfl, _, rfl, ?_⟩
        refine ite2 (fun _ => ?_) fun _ => ?_
        · refine ⟨.ref d, rfl, d, c, 6, rfl, DA, by decide, by decide, fun r Hc _ _ DC kC => ?_⟩
          exact ⟨rfl, _, rfl, DC, kC⟩
        · exact ⟨false, rfl, DA, Kp.refl _⟩
      · intro σ' Hc hM
        obtain ⟨bare, rfl, DC, kC⟩ := hM
        have RC := kC R _ niR RA
        -- row = []
        refine ⟨Nat.zero_le _, fun Wd nW => ?_⟩
        have niW := DC.ni nW
        have neRW : R ≠ Wd := ne_of_none RC nW
        refine ⟨.int wide, rfl, wide, rfl, by omega, by omega, ?_⟩
        refine for_it walk_range (fun j σ H' => ∃ (y10 y11 y12 : Option V) (row : List (Option Int)), σ = [some (.ref d), some (.int sort), some (.int holes), some (.int (sa * (sb - 999))), some (.int many), some (.int wide), some (.ref R), some (.int (0 + (i : Nat))), some (.bl bare), some (.ref Wd), y10, y11, y12] ∧
          Dk d c H' ∧ Kp [d, c] Hc H' ∧ H' Wd = some (.lst (row.map ov)) ∧ row.length = j)
          ⟨y10, y11, y12, [], rfl, DC.new nW, Kp.new nW, upd_same, rfl⟩ (fun _ _ _ _ _ => trivial) (fun j x σ He Hf hj hp hy => ?_) fun σ He hp => ?_
        · obtain ⟨z10, z11, z12, row, rfl, DE, kE, WE, lrow⟩ := hp
          obtain ⟨rfl, rfl⟩ := hy
          -- far
          refine ⟨.ref d, rfl, d, c, 2001, rfl, DE, by decide, by decide, fun f1 Hg g0 g1 DG kG => ?_⟩
          refine ⟨f1, 1000, rfl, rfl, 10, 6, rfl, rfl, ⟨by decide, by decide, by decide⟩, _, _, rfl, rfl, cmulR (by decide) (by decide), ?_⟩
          -- number
          refine ⟨.ref d, rfl, d, c, 3, rfl, DG, by decide, by decide, fun f2 Hh h0 h1 DH kH => ?_⟩
          refine ⟨.ref d, rfl, d, c, 19, rfl, DH, by decide, by decide, fun f3 Hi i0 i1 DI kI => ?_⟩
          refine ⟨f3, 9, rfl, rfl, .int (sa * (sb - 999)), rfl, _, rfl, (show (4 : Nat) ≤ sizeLine by decide), fun pn nn => ?_⟩
          obtain ⟨num, hnum⟩ := at4 (a := f2) (b := f3 - 9) (c := sa * (sb - 999)) (e := (f1 - 1000) * 10 ^ (6 : Int).toNat) s0 s1
          refine ⟨.int sort, rfl, pn, _, _, .int num, rfl, rfl, lOf upd_same, hnum, ?_⟩
          have DJ : Dk d c (upd Hi pn (.lst [.int f2, .int (f3 - 9), .int (sa * (sb - 999)), .int ((f1 - 1000) * 10 ^ (6 : Int).toNat)])) := DI.new nn
          have kJ : Kp [d, c] Hf (upd Hi pn (.lst [.int f2, .int (f3 - 9), .int (sa * (sb - 999)), .int ((f1 - 1000) * 10 ^ (6 : Int).toNat)])) := ((kG.trans kH).trans kI).trans (Kp.new nn)
          dsimp only at DJ kJ ⊢
          generalize upd Hi pn (.lst [.int f2, .int (f3 - 9), .int (sa * (sb - 999)), .int ((f1 - 1000) * 10 ^ (6 : Int).toNat)]) = HJ at DJ kJ ⊢
          have WJ := kJ Wd _ niW WE
          -- append
          refine ⟨.ref Wd, rfl, .inl ⟨rfl, _, lOf WJ⟩, .int num, rfl, (show (2 : Nat) ≤ sizeLine by decide), fun pl nl => ?_⟩
          have DL := DJ.new (o := .lst [.int num, .non]) nl
          have kL : Kp [d, c] Hf (upd HJ pl (.lst [.int num, .non])) := kJ.trans (Kp.new nl)
          have niL := DJ.ni nl
          have pL : upd HJ pl (.lst [.int num, .non]) pl = some (.lst [.int num, .non]) := upd_same
          generalize upd HJ pl (.lst [.int num, .non]) = HL at DL kL pL ⊢
          have fin : ∀ (hole : Bool) (HM : Hp), Dk d c HM → Kp [d, c] HL HM → ∃ v, atI [V.int num, V.non] (if hole = true then 1 else 0) = some v ∧ ∃ (y10 y11 y12 : Option V) (row' : List (Option Int)), True ∧ Dk d c (upd HM Wd (.lst (row.map ov ++ [v]))) ∧ Kp [d, c] Hc (upd HM Wd (.lst (row.map ov ++ [v]))) ∧ upd HM Wd (.lst (row.map ov ++ [v])) Wd = some (.lst (row'.map ov)) ∧ row'.length = j + 1 := fun hole HM DM kM => by
            cases hole with
            | true => exact ⟨.non, atI_nat (j := 1) rfl, none, none, none, row ++ [none], trivial, DM.up niW, ((kE.trans kL).trans kM).mut nW, by rw [upd_same, List.map_append]; rfl, by rw [List.length_append, lrow]; rfl⟩
            | false => exact ⟨.int num, atI_nat (j := 0) rfl, none, none, none, row ++ [some num], trivial, DM.up niW, ((kE.trans kL).trans kM).mut nW, by rw [upd_same, List.map_append]; rfl, by rw [List.length_append, lrow]; rfl⟩
          have szr : (row.map ov).length < sizeLine := by rw [List.length_map]; exact Nat.lt_of_le_of_lt (show row.length ≤ 12 by omega) (by decide)
          refine ⟨.bl bare, rfl, bare, rfl, ?_⟩
          cases bare with
          | true =>
            refine .inr ⟨true, rfl, ?_⟩
            obtain ⟨v, hv, _, _, _, row', _, e1, e2, e3, e4⟩ := fin true HL DL (Kp.refl _)
            exact ⟨pl, _, _, v, rfl, rfl, lOf pL, hv, Wd, _, _, rfl, rfl, kL Wd _ niW WE, szr, _, _, _, row', rfl, e1, e2, e3, e4⟩
          | false =>
            refine ⟨.ref d, rfl, d, c, 8, rfl, DL, by decide, by decide, fun r8 HM _ _ DM kM => ?_⟩
            refine ⟨.int holes, rfl, r8, holes, rfl, rfl, .inr ⟨_, rfl, ?_⟩⟩
            obtain ⟨v, hv, _, _, _, row', _, e1, e2, e3, e4⟩ := fin (decide (r8 < holes)) HM DM kM
            exact ⟨pl, _, _, v, rfl, rfl, lOf (kM pl _ niL pL), hv, Wd, _, _, rfl, rfl, kM Wd _ niW (kL Wd _ niW WE), szr, _, _, _, row', rfl, e1, e2, e3, e4⟩
        · obtain ⟨z10, z11, z12, row, rfl, DE, kE, WE, lrow⟩ := hp
          have RE := kE R _ niR RC
          refine ⟨.ref R, rfl, .inl ⟨rfl, _, lOf RE⟩, .ref Wd, rfl, Wd, _, rfl, .inl ⟨lOf WE, fun pt nt => ?_⟩⟩
          have neR : R ≠ pt := ne_of_none RE nt
          refine ⟨R, _, _, rfl, rfl, by rw [upd_ne neR]; exact RE, by rw [List.length_map]; exact Nat.lt_of_le_of_lt (show ps.length ≤ 12 by omega) (by decide), ?_⟩
          refine ⟨_, _, _, _, _, _, ps ++ [pt], rows ++ [row], rfl, (DE.new nt).up niR, ?_, ?_, ?_, ?_, ?_, ?_⟩
          · exact (((kA.trans kC).trans kE).trans (Kp.new nt)).mut nR
          · rw [upd_same, List.map_append]; rfl
          · rw [List.length_append, lp]; rfl
          · rw [List.length_append, lr]; rfl
          · intro r hrm
            rcases List.mem_append.mp hrm with z | z
            · exact hrw r z
            · rw [List.mem_singleton.mp z]; omega
          · intro m b r e1 e2
            by_cases hm : m < ps.length
            · rw [List.getElem?_append_left hm] at e1
              rw [List.getElem?_append_left (by omega)] at e2
              have z := hps m b r e1 e2
              have nb : b ∉ [d, c] := (NT.dk DA).ni z
              have nbR : b ≠ R := ne_of z RA (by intro y; cases y)
              rw [upd_ne nbR]
              exact (Kp.new (M := []) nt) b _ (by simp) (kE b _ nb (kC b _ nb z))
            · have hil : m < (ps ++ [pt]).length := (List.getElem?_eq_some_iff.mp e1).1
              rw [List.length_append] at hil
              have em : m = ps.length := by simp at hil; omega
              subst em
              rw [List.getElem?_append_right (Nat.le_refl _), Nat.sub_self] at e1
              rw [List.getElem?_append_right (by omega), show ps.length - rows.length = 0 by omega] at e2
              cases e1
              cases e2
              rw [upd_ne neR.symm, upd_same]
    · obtain ⟨y7, y8, y9, y10, y11, y12, ps, rows, rfl, DA, kA, RA, lp, lr, hrw, hps⟩ := hp
      refine ⟨.ref R, rfl, R, _, rfl, .inl ⟨lOf RA, fun pt nt => ?_⟩⟩
      refine q pt rows _ ⟨ps, upd_same, by omega, fun m b r e1 e2 => (Kp.new (M := []) nt) b _ (by simp) (hps m b r e1 e2)⟩ (by omega) hrw (DA.new nt) ((kk6.trans kA).trans (Kp.new nt))
end
end K15

namespace K15
open PySem PySem.Spec PyProof.Rows L2 GenW BT
section
variable {P : Program} {w : World} {K : PySem.W.Frag} {mg : Str → Option Value} {base : Heap}
def spTold (Pt : Addr) : Sp := fun vs H Q _ => ∃ (d c : Addr), vs = [.ref d] ∧ Dk d c H ∧ TabG H Pt ∧ ∀ p rows H', TabAt H' p rows → rows.length ≤ 101 → (∀ row ∈ rows, row.length ≤ 101) → Dk d c H' → TabG H' Pt → Kp [d, c, Pt] H H' → Q (.ref p) H'
theorem m2 {d c Pt p : Addr} (h1 : p ∉ [d, c]) (h2 : p ≠ Pt) : p ∉ [d, c, Pt] := fun z => by
  rcases List.mem_cons.mp z with e | z
  · exact h1 (by rw [e]; exact List.mem_cons_self)
  · rcases List.mem_cons.mp z with e | z
    · exact h1 (by rw [e]; exact List.mem_cons_of_mem _ (List.mem_singleton.mpr rfl))
    · exact h2 (List.mem_singleton.mp z)
theorem in2 {d c Pt : Addr} : ∀ p ∈ [d, c], p ∈ [d, c, Pt] := fun p hp => by
  rcases List.mem_cons.mp hp with e | e
  · rw [e]; exact List.mem_cons_self
  · rw [List.mem_singleton.mp e]; exact List.mem_cons_of_mem _ List.mem_cons_self
theorem in3 {d c Pt : Addr} : ∀ p ∈ [Pt], p ∈ [d, c, Pt] := fun p hp => by
  rw [List.mem_singleton.mp hp]; simp
theorem rows_len {xs ys : List Int} {m : Nat} (h1 : xs.length ≤ m) (h2 : ys.length ≤ m) : (rowsOf xs ys).length ≤ m ∧ ∀ row ∈ rowsOf xs ys, row.length ≤ m := by
  unfold rowsOf
  refine ⟨by rw [List.length_map]; exact h1, fun row hm => ?_⟩
  obtain ⟨x, _, rfl⟩ := List.mem_map.mp hm
  rw [List.length_map]
  exact h2
theorem ok_law_told (T : Txt K mg) (TB : TabB base mg T.c_plain_table T.P_plain_table) {k : Nat} : FnOk P w K mg base CX0 (k + 10) T.law_told_table.f T.law_told_table.fd p_law_told_table (spTold T.P_plain_table) := by
  have G_law_draw : FnOk P w K mg base CX0 1 T.law_draw.f T.law_draw.fd p_law_draw spDraw := ok_draw T
  have G_table_by : FnOk P w K mg base CX0 9 T.table_by.f T.table_by.fd p_table_by (spPT T.P_plain_table) := ok_table_by T TB
  refine T.law_told_table.F.ok sc_law_told_table (fun vs H Q E h => ?_) (fun cdv A outer s H vs Q E hr h => ?_)
  · obtain ⟨d, c, rfl, _⟩ := h
    rfl
  · obtain ⟨d, c, rfl, hD, hG, q⟩ := h
    replace hr := hr.mono (show 9 ≤ k + 9 by omega)
    have nd := sc_law_told_table.nd
    refine ⟨_, (pss_cons (ps_set (i := 1) nd rfl (Or.inl rfl) (pe_call G_law_draw (hr.mono (by decide)) (by rfl) T.law_draw.g T.law_draw.F.kp T.law_draw.b .nil pass0 (pa_cons (pv 0) (pa_cons pe_int pa_nil))))
        (pss_cons (ps_set (i := 2) nd rfl (Or.inl rfl) (pe_callTy (tupK K) (by rfl) T.b_tuple (by decide +kernel) (pa_cons (pe_lc (own := [("_law_k", 4)]) rfl nd (pi_range1 (by rfl) T.b_range (pa_cons (pe_op op_add pe_int (pe_call G_law_draw (hr.mono (by decide)) (by rfl) T.law_draw.g T.law_draw.F.kp T.law_draw.b .nil pass0 (pa_cons (pv 0) (pa_cons pe_int pa_nil)))) pa_nil)) (blkOk_by (own := [("_law_k", 4)]) (N := n_law_told_table) (sc := defScope s_law_told_table) (by decide +kernel)) (fun _ _ _ _ _ => (pg_name (i := 4) nd rfl (Or.inl rfl))) (fun _ _ _ _ _ => pts_nil) (fun _ _ _ _ _ => (pe_op op_sub (pe_call G_law_draw (hr.mono (by decide)) (by rfl) T.law_draw.g T.law_draw.F.kp T.law_draw.b .nil pass0 (pa_cons (pv 0) (pa_cons pe_int pa_nil))) pe_int))) pa_nil)))
        (pss_cons (ps_set (i := 3) nd rfl (Or.inl rfl) (pe_callTy (tupK K) (by rfl) T.b_tuple (by decide +kernel) (pa_cons (pe_lc (own := [("_law_k", 4)]) rfl nd (pi_range1 (by rfl) T.b_range (pa_cons (pe_op op_add pe_int (pe_call G_law_draw (hr.mono (by decide)) (by rfl) T.law_draw.g T.law_draw.F.kp T.law_draw.b .nil pass0 (pa_cons (pv 0) (pa_cons pe_int pa_nil)))) pa_nil)) (blkOk_by (own := [("_law_k", 4)]) (N := n_law_told_table) (sc := defScope s_law_told_table) (by decide +kernel)) (fun _ _ _ _ _ => (pg_name (i := 4) nd rfl (Or.inl rfl))) (fun _ _ _ _ _ => pts_nil) (fun _ _ _ _ _ => (pe_op op_sub (pe_call G_law_draw (hr.mono (by decide)) (by rfl) T.law_draw.g T.law_draw.F.kp T.law_draw.b .nil pass0 (pa_cons (pv 0) (pa_cons pe_int pa_nil))) pe_int))) pa_nil)))
        (pss_one (ps_ret (pe_call G_table_by (hr.mono (by decide)) (by rfl) T.table_by.g T.table_by.F.kp T.table_by.b .nil pass0 (pa_cons (pe_tup (pa_cons pe_str (pa_cons (pe_ix (ixLK K) (pe_lst (pa_cons (pv 2) (pa_cons (pv 3) pa_nil))) (pv 1) (fun _ _ => rfl)) (pa_cons (pe_ix (ixLK K) (pe_lst (pa_cons (pv 3) (pa_cons (pv 2) pa_nil))) (pv 1) (fun _ _ => rfl)) pa_nil)))) pa_nil))))))), ?_⟩
    refine ⟨.ref d, rfl, d, c, 2, rfl, hD, by decide, by decide, fun over H1 o0 o1 D1 k1 => ?_⟩
    -- few
    refine ⟨.ref d, rfl, d, c, 5, rfl, D1, by decide, by decide, fun f1 H2 f10 f11 D2 k2 => ?_⟩
    refine ⟨1, f1, rfl, rfl, 1 + f1, rfl, by omega, by omega, fun D nD => ?_⟩
    have niD := D2.ni nD
    refine lc_it walk_range (fun i H' => Dk d c H' ∧ Kp [d, c] H2 H' ∧ ∃ xs : List Int, H' D = some (.lst (xs.map V.int)) ∧ xs.length = i) ⟨D2.new nD, Kp.new nD, [], upd_same, rfl⟩ (fun _ _ _ _ => trivial) (fun i x Ha Hb hi hp hy => ?_) fun H3 hp => ?_
    · obtain ⟨DA, kA, xs, hx, lx⟩ := hp
      obtain ⟨rfl, rfl⟩ := hy
      refine ⟨rfl, .ref d, rfl, d, c, 41, rfl, DA, by decide, by decide, fun r Hc _ _ DC kC => ?_⟩
      refine ⟨r, 20, rfl, rfl, _, kC D _ niD hx, by rw [List.length_map]; exact Nat.lt_of_le_of_lt (show xs.length ≤ 1000 by omega) (by decide), DC.up niD, (kA.trans kC).mut nD, xs ++ [r - 20], ?_, ?_⟩
      · rw [upd_same, List.map_append]; rfl
      · rw [List.length_append, lx]; rfl
    obtain ⟨D3, k3, xs, hx3, lx⟩ := hp
    refine ⟨D, _, rfl, .inl ⟨lOf hx3, fun fa nfa => ?_⟩⟩
    have niF := D3.ni nfa
    have D4 := D3.new (o := .tup (xs.map V.int)) nfa
    have k4 : Kp [d, c] H (upd H3 fa (.tup (xs.map V.int))) := ((k1.trans k2).trans k3).trans (Kp.new nfa)
    have f4 : upd H3 fa (.tup (xs.map V.int)) fa = some (.tup (xs.map V.int)) := upd_same
    generalize upd H3 fa (.tup (xs.map V.int)) = H4 at D4 k4 f4 ⊢
    -- long
    refine ⟨.ref d, rfl, d, c, 81, rfl, D4, by decide, by decide, fun g1 H5 g10 g11 D5 k5 => ?_⟩
    refine ⟨20, g1, rfl, rfl, 20 + g1, rfl, by omega, by omega, fun E1 nE => ?_⟩
    have niE := D5.ni nE
    refine lc_it walk_range (fun i H' => Dk d c H' ∧ Kp [d, c] H5 H' ∧ ∃ xs : List Int, H' E1 = some (.lst (xs.map V.int)) ∧ xs.length = i) ⟨D5.new nE, Kp.new nE, [], upd_same, rfl⟩ (fun _ _ _ _ => trivial) (fun i x Ha Hb hi hp hy => ?_) fun H6 hp => ?_
    · obtain ⟨DA, kA, xs, hx, lx⟩ := hp
      obtain ⟨rfl, rfl⟩ := hy
      refine ⟨rfl, .ref d, rfl, d, c, 41, rfl, DA, by decide, by decide, fun r Hc _ _ DC kC => ?_⟩
      refine ⟨r, 20, rfl, rfl, _, kC E1 _ niE hx, by rw [List.length_map]; exact Nat.lt_of_le_of_lt (show xs.length ≤ 1000 by omega) (by decide), DC.up niE, (kA.trans kC).mut nE, xs ++ [r - 20], ?_, ?_⟩
      · rw [upd_same, List.map_append]; rfl
      · rw [List.length_append, lx]; rfl
    obtain ⟨D6, k6, ys, hy6, ly⟩ := hp
    refine ⟨E1, _, rfl, .inl ⟨lOf hy6, fun la nla => ?_⟩⟩
    have D7 := D6.new (o := .tup (ys.map V.int)) nla
    have kf : Kp [d, c] H4 (upd H6 la (.tup (ys.map V.int))) := (k5.trans k6).trans (Kp.new nla)
    have f7 := kf fa _ niF f4
    have l7 : upd H6 la (.tup (ys.map V.int)) la = some (.tup (ys.map V.int)) := upd_same
    have k7 : Kp [d, c] H (upd H6 la (.tup (ys.map V.int))) := k4.trans kf
    generalize upd H6 la (.tup (ys.map V.int)) = H7 at D7 f7 l7 k7 ⊢
    have hG7 : TabG H7 T.P_plain_table := TabG.kp hG k7 (TabG.nd hG hD)
    have lx5 : xs.length ≤ 5 := by omega
    have ly5 : ys.length ≤ 101 := by omega
    -- the two picks
    refine ⟨.ref fa, rfl, .ref la, rfl, (show (2 : Nat) ≤ sizeLine by decide), fun p8 n8 => ?_⟩
    have kp8 : Kp [] H7 (upd H7 p8 (.lst [.ref fa, .ref la])) := Kp.new n8
    have pick : ∀ (a b : Addr), ∃ v, atI [V.ref a, V.ref b] over = some v ∧ ((over = 0 ∧ v = .ref a) ∨ (over = 1 ∧ v = .ref b)) := fun a b => by
      rcases (show over = 0 ∨ over = 1 by omega) with rfl | rfl
      · exact ⟨.ref a, atI_nat (j := 0) rfl, .inl ⟨rfl, rfl⟩⟩
      · exact ⟨.ref b, atI_nat (j := 1) rfl, .inr ⟨rfl, rfl⟩⟩
    obtain ⟨va, ha, hva⟩ := pick fa la
    refine ⟨.int over, rfl, p8, _, _, va, rfl, rfl, lOf upd_same, ha, ?_⟩
    refine ⟨.ref la, rfl, .ref fa, rfl, (show (2 : Nat) ≤ sizeLine by decide), fun p9 n9 => ?_⟩
    obtain ⟨vb, hb, hvb⟩ := pick la fa
    refine ⟨.int over, rfl, p9, _, _, vb, rfl, rfl, lOf upd_same, hb, ?_⟩
    have kp9 : Kp [] H7 (upd (upd H7 p8 (.lst [.ref fa, .ref la])) p9 (.lst [.ref la, .ref fa])) := kp8.trans (Kp.new n9)
    generalize upd (upd H7 p8 (.lst [.ref fa, .ref la])) p9 (.lst [.ref la, .ref fa]) = H9 at kp9 ⊢
    refine ⟨(show (3 : Nat) ≤ sizeLine by decide), fun r nr => ?_⟩
    have kr : Kp [] H7 (upd H9 r (.tup [.str "apart", va, vb])) := kp9.trans (Kp.new nr)
    have DR : Dk d c (upd H9 r (.tup [.str "apart", va, vb])) := D7.kp (M := []) kr (by simp) (by simp)
    have GR : TabG (upd H9 r (.tup [.str "apart", va, vb])) T.P_plain_table := TabG.kp hG7 kr (by simp)
    have fR := kr fa _ (by simp) f7
    have lR := kr la _ (by simp) l7
    have fin : ∀ xs' ys' : List Int, xs'.length ≤ 101 → ys'.length ≤ 101 → RuleAt (upd H9 r (.tup [.str "apart", va, vb])) r xs' ys' → spPT T.P_plain_table [.ref r] (upd H9 r (.tup [.str "apart", va, vb])) Q E0 := fun xs' ys' h1 h2 hR => by
      refine ⟨r, xs', ys', rfl, hR, by omega, by omega, GR, fun p Hz hp kz gz => ?_⟩
      obtain ⟨r1, r2⟩ := rows_len h1 h2
      have nd1 : d ∉ [T.P_plain_table] := fun z => TabG.nd GR DR (by rw [List.mem_singleton.mp z]; exact List.mem_cons_self)
      have nc1 : c ∉ [T.P_plain_table] := fun z => TabG.nd GR DR (by rw [List.mem_singleton.mp z]; exact List.mem_cons_of_mem _ (List.mem_singleton.mpr rfl))
      exact q p _ Hz hp r1 r2 (DR.kp kz nd1 nc1) gz (((k7.mono in2).trans (kr.mono (by simp))).trans (kz.mono in3))
    rcases hva with ⟨e1, rfl⟩ | ⟨e1, rfl⟩
    · rcases hvb with ⟨e2, rfl⟩ | ⟨e2, rfl⟩
      · exact fin xs ys (by omega) ly5 ⟨fa, la, upd_same, fR, lR⟩
      · omega
    · rcases hvb with ⟨e2, rfl⟩ | ⟨e2, rfl⟩
      · omega
      · exact fin ys xs ly5 (by omega) ⟨la, fa, upd_same, lR, fR⟩
end
end K15

namespace K15
open PySem PySem.Spec PyProof.Rows L2 GenW BT
section
variable {P : Program} {w : World} {K : PySem.W.Frag} {mg : Str → Option Value} {base : Heap}
def spRight (P1 : Addr) : Sp := fun vs H Q _ => ∃ (a : Addr) (rows : List (List (Option Int))), vs = [.ref a] ∧ TabAt H a rows ∧ rows.length ≤ 1000 ∧ (∀ row ∈ rows, row.length ≤ 1000) ∧ TabG H P1 ∧ ∀ H', Kp [P1] H H' → TabG H' P1 → Q (.bl true) H'
theorem ok_law_right (T : Txt K mg) (TB : TabB base mg T.c_least_places T.P_least_places) {k : Nat} : FnOk P w K mg base CX0 (k + 9) T.law_right.f T.law_right.fd p_law_right (spRight T.P_least_places) := by
  have G_least_places : FnOk P w K mg base CX0 8 T.least_places.f T.least_places.fd p_least_places (spLPs T.P_least_places) := ok_least_places T TB
  have G_law_least : FnOk P w K mg base CX0 1 T.law_least.f T.law_least.fd p_law_least (spLL K) := ok_law_least T
  refine T.law_right.F.ok sc_law_right (fun vs H Q E h => ?_) (fun cdv A outer s H vs Q E hr h => ?_)
  · obtain ⟨a, rows, rfl, _⟩ := h
    rfl
  · obtain ⟨a, rows, rfl, hT, hl, hlr, hG, q⟩ := h
    replace hr := hr.mono (show 8 ≤ k + 8 by omega)
    have nd := sc_law_right.nd
    refine ⟨_, (pss_cons (ps_for PassesOwn.never rfl (piLK K (pe_lst (pa_cons pe_str (pa_cons pe_str pa_nil)))) (pg_name (i := 1) nd rfl (Or.inl rfl)) (pss_cons (ps_set (i := 2) nd rfl (Or.inl rfl) (pe_call G_least_places (hr.mono (by decide)) (by rfl) T.least_places.g T.least_places.F.kp T.least_places.b .nil pass0 (pa_cons (pv 0) (pa_cons (pv 1) pa_nil))))
        (pss_cons (ps_if (PW.pt (pw_or (pt_not (pt_val (pe_callB (isiK K) (by rfl) T.b_isinstance (by decide +kernel) (pa_cons (pv 2) (pa_cons (pe_bltn (v := .ty "tuple") (by rfl) T.b_tuple (by decide +kernel) rfl) pa_nil))))) (pw_or1 (pt_cmpR op_ne (pe_callB (lenK K) (by rfl) T.b_len PySem.boot_len (pa_cons (pv 2) pa_nil)) (pe_callB (lenK K) (by rfl) T.b_len PySem.boot_len (pa_cons (pv 0) pa_nil)) (nomark _))))) (pss_one (ps_ret pe_bl)) pss_nil)
        (pss_one (ps_for PassesOwn.never rfl (RZ.pi_zipA (by rfl) T.b_zip (pa_cons (pv 2) (pa_cons (pv 0) pa_nil))) (pg_tup (by rfl) (pgs_cons (pg_name (i := 3) nd rfl (Or.inl rfl)) (pgs_cons (pg_name (i := 4) nd rfl (Or.inl rfl)) pgs_nil))) (pss_cons (ps_if (PW.pt (pw_or (pt_val (pe_callB (isiK K) (by rfl) T.b_isinstance (by decide +kernel) (pa_cons (pv 3) (pa_cons (pe_bltn (v := .ty "bool") (by rfl) T.b_bool (by decide +kernel) rfl) pa_nil)))) (pw_or1 (PW.pt (pw_and (pt_cmpR op_notN (pv 3) pe_non (nomark _)) (pw_and1 (pt_not (pt_val (pe_callB (isiK K) (by rfl) T.b_isinstance (by decide +kernel) (pa_cons (pv 3) (pa_cons (pe_bltn (v := .ty "int") (by rfl) T.b_int (by decide +kernel) rfl) pa_nil))))))))))) (pss_one (ps_ret pe_bl)) pss_nil)
        (pss_one (ps_if (pt_cmpR op_ne (pv 3) (pe_call G_law_least (hr.mono (by decide)) (by rfl) T.law_least.g T.law_least.F.kp T.law_least.b .nil pass0 (pa_cons (pv 4) (pa_cons (pv 1) pa_nil))) (nomark _)) (pss_one (ps_ret pe_bl)) pss_nil))))))))
        (pss_one (ps_ret pe_bl))), ?_⟩
    refine ⟨(show (2 : Nat) ≤ sizeLine by decide), fun ls nls => ?_⟩
    refine ⟨ls, rfl, ⟨_, lOf upd_same⟩, ?_⟩
    have nP : ls ≠ T.P_least_places := fun z => by
      obtain ⟨_, z1, _⟩ := hG
      rw [z, z1] at nls
      cases nls
    have niP : ls ∉ [T.P_least_places] := fun z => nP (List.mem_singleton.mp z)
    refine for_it (walk_list (xs := [.str "first", .str "last"])) (fun i σ H' => ∃ y1 y2 y3 y4, σ = [some (.ref a), y1, y2, y3, y4] ∧ Kp [T.P_least_places] H H' ∧ TabG H' T.P_least_places ∧ H' ls = some (.lst [.str "first", .str "last"])) ⟨none, none, none, none, rfl, Kp.new nls, TabG.kp hG (Kp.new (M := []) nls) (by simp), upd_same⟩ (fun i σ H' hi hp => ?_) (fun i x σ H1 H2 hi hp hy => ?_) fun σ H' hp => ?_
    · obtain ⟨_, _, _, _, _, _, _, z⟩ := hp
      exact lOf z
    · obtain ⟨y1, y2, y3, y4, rfl, k1, g1, l1⟩ := hp
      obtain ⟨rfl, hx⟩ := hy
      obtain ⟨last, rfl⟩ : ∃ last, x = .str (sideS last) := by
        have hi2 : i < 2 := hi
        rcases (show i = 0 ∨ i = 1 by omega) with rfl | rfl
        · exact ⟨false, (Option.some.inj hx).symm⟩
        · exact ⟨true, (Option.some.inj hx).symm⟩
      have hT1 : TabAt H2 a rows := hT.kp k1 (NT.tab hG)
      refine ⟨.ref a, rfl, .str (sideS last), rfl, a, rows, last, rfl, hT1, hl, g1, fun p us H3 hp3 lu hu k3 g3 => ?_⟩
      have hT3 : TabAt H3 a rows := hT1.kp k3 (NT.tab g1)
      have l3 := k3 ls _ niP l1
      obtain ⟨ps, t1, t2, t3⟩ := id hT3
      refine ⟨.ref p, rfl, .ref p, .ty "tuple", _, _, true, rfl, .ty "tuple", .base (.tup hp3), kit_ty (by decide +kernel), _, rfl, iteF ?_⟩
      refine ⟨.ref p, rfl, p, _, rfl, .inr (tOf hp3), .ref a, rfl, a, _, rfl, .inr (tOf t1), rfl, _, rfl, ?_⟩
      rw [show (us.length : Int) = ((ps.map V.ref).length : Int) by rw [List.length_map]; omega]
      refine iteNS rfl ?_
      refine ⟨.ref p, rfl, .ref a, rfl, p, a, us, ps.map V.ref, rfl, .inr ⟨tOf hp3, tOf t1, ?_⟩⟩
      refine for_it (walk_zipT (n := rows.length) (xs := us) (ys := ps.map V.ref) (by rw [List.length_map]; omega)) (fun j σ H' => ∃ y3 y4, σ = [some (.ref a), some (.str (sideS last)), some (.ref p), y3, y4] ∧ Kp [] H3 H') ⟨y3, y4, rfl, Kp.refl _⟩ (fun j σ H' hj hp => ?_) (fun j x σ H4 H5 hj hp hy => ?_) fun σ H4 hp => ?_
      · obtain ⟨_, _, _, kk⟩ := hp
        exact ⟨kk.t (by simp) (tOf hp3), kk.t (by simp) (tOf t1)⟩
      · obtain ⟨z3, z4, rfl, kk⟩ := hp
        obtain ⟨T1, v, rv, rfl, nT, rfl, hv, hrv⟩ := hy
        have hrow := List.getElem?_eq_getElem hj
        have hpj : ps[j]? = some ps[j] := List.getElem?_eq_getElem (by omega)
        dsimp only at hv hrv
        rw [List.getElem?_map, hpj] at hrv
        have erv : rv = .ref ps[j] := (Option.some.inj hrv).symm
        subst erv
        have hLe := hu j _ v hrow hv
        have k5 : Kp [] H3 (upd H4 T1 (.tup [v, .ref ps[j]])) := kk.trans (Kp.new nT)
        refine ⟨T1, [v, .ref ps[j]], rfl, tOf upd_same, rfl, v, [.ref ps[j]], rfl, .ref ps[j], [], rfl, rfl, ?_⟩
        generalize upd H4 T1 (.tup [v, .ref ps[j]]) = H5 at k5 ⊢
        have hS5 : H5 ps[j] = some (.tup (rows[j].map ov)) := k5 _ _ (by simp) (t3 j _ _ hpj hrow)
        have tail : spLL K ([.ref ps[j], .str (sideS last)] ++ []) H5 (fun y H6 => scal v y = true ∧ ∃ b, V.bl (!decide (v = y)) = .bl b ∧ if b = true then Q (.bl false) H6 else (∃ y3 y4, [some (.ref a), some (.str (sideS last)), some (.ref p), some v, some (.ref ps[j])] = [some (.ref a), some (.str (sideS last)), some (.ref p), y3, y4] ∧ Kp [] H3 H6)) E0 := by
          refine ⟨ps[j], rows[j], last, rfl, tOf hS5, hlr _ (List.getElem_mem hj), fun y H6 hy6 k6 => ?_⟩
          have e := hLe.uniq hy6
          subst e
          refine ⟨?_, _, rfl, ?_⟩
          · rcases hLe with ⟨rfl, _⟩ | ⟨_, rfl, _⟩ <;> rfl
          · exact iteNS rfl ⟨_, _, rfl, k5.trans k6⟩
        rcases hLe with ⟨rfl, _⟩ | ⟨kv, rfl, _⟩
        · refine ⟨.non, rfl, .non, .ty "bool", _, _, false, rfl, .ty "bool", .base .non, kit_ty (by decide +kernel), _, rfl, iteF ?_⟩
          refine ⟨.non, rfl, rfl, _, rfl, iteF ?_⟩
          refine ⟨.non, rfl, .ref ps[j], rfl, .str (sideS last), rfl, ?_⟩
          exact tail
        · refine ⟨.int kv, rfl, .int kv, .ty "bool", _, _, false, rfl, .ty "bool", .base (.int _), kit_ty (by decide +kernel), _, rfl, iteF ?_⟩
          refine ⟨.int kv, rfl, rfl, _, rfl, iteT ?_⟩
          refine ⟨.int kv, rfl, .int kv, .ty "int", _, _, true, rfl, .ty "int", .base (.int _), kit_ty (by decide +kernel), _, rfl, iteF ?_⟩
          refine ⟨.int kv, rfl, .ref ps[j], rfl, .str (sideS last), rfl, ?_⟩
          exact tail
      · obtain ⟨z3, z4, rfl, kk⟩ := hp
        exact ⟨_, _, _, _, rfl, (k1.trans k3).trans (kk.mono (by simp)), TabG.kp g3 kk (by simp), kk ls _ (by simp) l3⟩
    · obtain ⟨y1, y2, y3, y4, rfl, k1, g1, l1⟩ := hp
      exact q H' k1 g1
end
end K15

namespace K15
open PySem PySem.Spec PyProof.Rows L2 GenW BT
section
variable {P : Program} {w : World} {K : PySem.W.Frag} {mg : Str → Option Value} {base : Heap}
def spLaw (T : Txt K mg) : Sp := fun vs H Q _ => ∃ (a : Addr) (ns : List Int), vs = [.ref a] ∧ SqL K H a (ns.map V.int) ∧ ns.length ≤ 63 ∧ TabG H T.P_least_places ∧ TabG H T.P_plain_table ∧ ∀ H', Q (.bl true) H'
theorem law_start (T : Txt K mg) (H : Hp) (a : Addr) (ns : List Int) (hl : ns.length ≤ 63) (_ : ∀ z ∈ ns, Builtin.Int.intBits z ≤ 1048576) (hH : ∀ p ∈ [(T.c_least_places, T.P_least_places), (T.c_plain_table, T.P_plain_table)], H p.2 = some (.tbl #[])) (hS : SqL K H a (ns.map V.int)) :
    spLaw T [.ref a] H (fun v _ => v = .bl true) fun _ _ _ => False := ⟨a, ns, rfl, hS, hl, tabG0 (hH (T.c_least_places, T.P_least_places) (by simp)), tabG0 (hH (T.c_plain_table, T.P_plain_table) (by simp)), fun _ => rfl⟩
def Tabs (T : Txt K mg) (base : Heap) : Prop := TabB base mg T.c_least_places T.P_least_places ∧ TabB base mg T.c_plain_table T.P_plain_table
def Good (H : Hp) (ps : List Addr) : Prop := ∀ p ∈ ps, ∃ rows, TabAt H p rows ∧ rows.length ≤ 101 ∧ ∀ row ∈ rows, row.length ≤ 101
theorem Good.kp {H H' : Hp} {ps : List Addr} {M : List Addr} (h : Good H ps) (k : Kp M H H') (n : NT M H) : Good H' ps := fun p hp => by
  obtain ⟨rows, h1, h2, h3⟩ := h p hp
  exact ⟨rows, h1.kp k n, h2, h3⟩
theorem Good.app {H : Hp} {ps qs : List Addr} (h : Good H ps) (h' : Good H qs) : Good H (ps ++ qs) := fun p hp => (List.mem_append.mp hp).elim (h p) (h' p)
theorem Good.sub {H : Hp} {ps qs : List Addr} (h : Good H ps) (hs : ∀ p ∈ qs, p ∈ ps) : Good H qs := fun p hp => h p (hs p hp)
theorem ok_law (T : Txt K mg) (TB : Tabs T base) : FnOk P w K mg base CX0 12 T.law.f T.law.fd p_law (spLaw T) := by
  have G_law_deck : FnOk P w K mg base CX0 1 T.law_deck.f T.law_deck.fd p_law_deck (spDeck K) := ok_law_deck T
  have G_law_draw : FnOk P w K mg base CX0 1 T.law_draw.f T.law_draw.fd p_law_draw spDraw := ok_draw T
  have G_law_table : FnOk P w K mg base CX0 3 T.law_table.f T.law_table.fd p_law_table spTable := ok_law_table T
  have G_law_told_table : FnOk P w K mg base CX0 10 T.law_told_table.f T.law_told_table.fd p_law_told_table (spTold T.P_plain_table) := ok_law_told T TB.2
  have G_law_right : FnOk P w K mg base CX0 9 T.law_right.f T.law_right.fd p_law_right (spRight T.P_least_places) := ok_law_right T TB.1
  refine T.law.F.ok sc_law (fun vs H Q E h => ?_) (fun cdv A outer s H vs Q E hr h => ?_)
  · obtain ⟨a, ns, rfl, _⟩ := h
    rfl
  · obtain ⟨a, ns, rfl, hS, hl, g1, g2, q⟩ := h
    have nd := sc_law.nd
    refine ⟨_, (pss_cons (ps_set (i := 1) nd rfl (Or.inr rfl) (pe_call G_law_deck (hr.mono (by decide)) (by rfl) T.law_deck.g T.law_deck.F.kp T.law_deck.b .nil pass0 (pa_cons (pv 0) pa_nil)))
        (pss_cons (ps_setLc (i := 2) (own := [("_law_turn", 3)]) rfl nd rfl rfl (sw_true rfl rfl rfl (by decide +kernel)) (pi_range1 (by rfl) T.b_range (pa_cons pe_int pa_nil)) (blkOk_by (own := [("_law_turn", 3)]) (N := n_law) (sc := defScope s_law) (by decide +kernel)) (fun _ _ _ _ _ => (pg_name (i := 3) nd rfl (Or.inl rfl))) (fun _ _ _ _ _ => pts_nil) (fun _ _ _ _ _ => (pe_call G_law_table (hr.mono (by decide)) (by rfl) T.law_table.g T.law_table.F.kp T.law_table.b .nil pass0 (pa_cons (pv 1) pa_nil))))
        (Evl.pss_cut (ps_if (pt_cmpR op_eq (pe_call G_law_draw (hr.mono (by decide)) (by rfl) T.law_draw.g T.law_draw.F.kp T.law_draw.b .nil pass0 (pa_cons (pv 1) (pa_cons pe_int pa_nil))) pe_int (nomark _)) (pss_one (ps_set (i := 2) nd rfl (Or.inl rfl) (pe_op op_cat (pe_lst (pa_cons (pe_call G_law_told_table (hr.mono (by decide)) (by rfl) T.law_told_table.g T.law_told_table.F.kp T.law_told_table.b .nil pass0 (pa_cons (pv 1) pa_nil)) pa_nil)) (pe_slice (slLK K) (pv 2) (po_some pe_int) po_none)))) pss_nil)
        (pss_one (ps_ret (pe_callB (allK K rfl) (by rfl) T.b_all (by decide +kernel) (pa_cons (pe_lc (own := [("_law_rows", 4)]) rfl nd (piLK K (pe_op op_cat (pv 2) (pe_slice (slLK K) (pv 2) po_none (po_some pe_int)))) (blkOk_by (own := [("_law_rows", 4)]) (N := n_law) (sc := defScope s_law) (by decide +kernel)) (fun _ _ _ _ _ => (pg_name (i := 4) nd rfl (Or.inl rfl))) (fun _ _ _ _ _ => pts_nil) (fun _ _ _ _ _ => (pe_call G_law_right (hr.mono (by decide)) (by rfl) T.law_right.g T.law_right.F.kp T.law_right.b .nil pass0 (pa_cons (pv 4) pa_nil)))) pa_nil))))))), ?_⟩
    refine ⟨.ref a, rfl, a, ns, rfl, hS, hl, fun d c H1 D1 k1 _ _ => ?_⟩
    have g11 := TabG.kp g1 k1 (by simp)
    have g21 := TabG.kp g2 k1 (by simp)
    -- the three tables
    refine ⟨3, rfl, by decide, by decide, fun D nD => ?_⟩
    have niD := D1.ni nD
    refine lc_it walk_range (fun i H' => Dk d c H' ∧ Kp [d, c] H1 H' ∧ ∃ ps : List Addr, H' D = some (.lst (ps.map V.ref)) ∧ ps.length = i ∧ Good H' ps) ⟨D1.new nD, Kp.new nD, [], upd_same, rfl, fun p hp => by cases hp⟩ (fun _ _ _ _ => trivial) (fun i x Ha Hb hi hp hy => ?_) fun H2 hp => ?_
    · obtain ⟨DA, kA, ps, hx, lx, gd⟩ := hp
      obtain ⟨rfl, rfl⟩ := hy
      refine ⟨rfl, .ref d, rfl, d, c, rfl, DA, fun p rows Hc ht l1 l2 DC kC => ?_⟩
      have gc : Good Hc (ps ++ [p]) := (gd.kp kC (NT.dk DA)).app fun p' hp' => by
        rw [List.mem_singleton.mp hp']
        exact ⟨rows, ht, by omega, fun row hrow => Nat.le_trans (l2 row hrow) (by decide)⟩
      have hxc := kC D _ niD hx
      have ntD : ∀ xs, Hc D ≠ some (.tup xs) := fun xs z => by rw [hxc] at z; cases z
      refine ⟨_, hxc, by rw [List.length_map]; exact Nat.lt_of_le_of_lt (show ps.length ≤ 12 by omega) (by decide), DC.up niD, (kA.trans kC).mut nD, ps ++ [p], ?_, ?_, ?_⟩
      · rw [upd_same, List.map_append]; rfl
      · rw [List.length_append, lx]; rfl
      · exact gc.kp ((Kp.refl Hc).wr (List.mem_singleton.mpr rfl)) fun m hm xs => by
          rw [List.mem_singleton.mp hm]
          exact ntD xs
    obtain ⟨D2, k2, ps, hx2, lx2, gd2⟩ := hp
    have g12 := TabG.kp g11 k2 (TabG.nd g11 D1)
    have g22 := TabG.kp g21 k2 (TabG.nd g21 D1)
    -- the draw, with a word behind it
    refine ⟨fun σ' H' => ∃ (L : Addr) (qs : List Addr) (y3 y4 : Option V), σ' = [some (.ref a), some (.ref d), some (.ref L), y3, y4] ∧ H' L = some (.lst (qs.map V.ref)) ∧ qs.length ≤ 12 ∧ Good H' qs ∧ TabG H' T.P_least_places, ?_, ?_⟩
    · refine ⟨.ref d, rfl, d, c, 8, rfl, D2, by decide, by decide, fun r H3 _ _ D3 k3 => ?_⟩
      have g13 := TabG.kp g12 k3 (TabG.nd g12 D2)
      have g23 := TabG.kp g22 k3 (TabG.nd g22 D2)
      have hx3 := k3 D _ niD hx2
      have gd3 := gd2.kp k3 (NT.dk D2)
      refine ⟨rfl, _, rfl, ite2 (fun _ => ?_) fun _ => ?_⟩
      · refine ⟨.ref d, rfl, d, c, rfl, D3, g23, fun p rows H4 ht l1 l2 D4 g24 k4 => ?_⟩
        have g14 : TabG H4 T.P_least_places := by
          by_cases e : T.P_least_places = T.P_plain_table
          · rw [e]; exact g24
          · exact TabG.kp g13 k4 (m2 (TabG.nd g13 D3) e)
        have nt4 : NT [d, c, T.P_plain_table] H3 := fun m hm xs z => by
          rcases List.mem_cons.mp hm with e | hm
          · exact NT.dk D3 m (by rw [e]; exact List.mem_cons_self) xs z
          · rcases List.mem_cons.mp hm with e | hm
            · exact NT.dk D3 m (by rw [e]; exact List.mem_cons_of_mem _ (List.mem_singleton.mpr rfl)) xs z
            · exact NT.tab g23 m hm xs z
        have niD3 : D ∉ [d, c, T.P_plain_table] := m2 niD fun z => by
          obtain ⟨_, z1, _⟩ := g23
          rw [z, z1] at hx3
          cases hx3
        have hx4 := k4 D _ niD3 hx3
        have gd4 := gd3.kp k4 nt4
        refine ⟨(show (1 : Nat) ≤ sizeLine by decide), fun p5 n5 => ?_⟩
        have k5 : Kp [] H4 (upd H4 p5 (.lst [.ref p])) := Kp.new n5
        refine ⟨.ref D, rfl, 1, rfl, D, _, rfl, lOf (k5 D _ (by simp) hx4), fun p6 n6 => ?_⟩
        have hcut : cutV (ps.map V.ref) (some 1) none = (ps.drop 1).map V.ref := by
          rw [List.map_drop]
          exact cut_from _ 1 (by rw [List.length_map]; omega)
        rw [hcut]
        have k6 : Kp [] H4 (upd (upd H4 p5 (.lst [.ref p])) p6 (.lst ((ps.drop 1).map V.ref))) := k5.trans (Kp.new n6)
        have e5 : upd (upd H4 p5 (.lst [.ref p])) p6 (.lst ((ps.drop 1).map V.ref)) p5 = some (.lst [.ref p]) := (Kp.new (M := []) n6) p5 _ (by simp) upd_same
        have e6 : upd (upd H4 p5 (.lst [.ref p])) p6 (.lst ((ps.drop 1).map V.ref)) p6 = some (.lst ((ps.drop 1).map V.ref)) := upd_same
        generalize upd (upd H4 p5 (.lst [.ref p])) p6 (.lst ((ps.drop 1).map V.ref)) = H6 at k6 e5 e6 ⊢
        refine ⟨p5, p6, _, _, rfl, rfl, e5, e6, ?_, fun p7 n7 => ?_⟩
        · rw [List.length_map, List.length_drop]
          exact Nat.le_trans (show 1 + (ps.length - 1) ≤ 12 by omega) (by decide)
        · have k7 : Kp [] H4 (upd H6 p7 (.lst ([V.ref p] ++ (ps.drop 1).map V.ref))) := k6.trans (Kp.new n7)
          refine ⟨p7, p :: ps.drop 1, _, _, rfl, upd_same, ?_, ?_, TabG.kp g14 k7 (by simp)⟩
          · rw [List.length_cons, List.length_drop]
            omega
          · refine Good.kp (H := H4) (fun p' hp' => ?_) k7 NT.nil
            rcases List.mem_cons.mp hp' with e | e
            · rw [e]
              exact ⟨rows, ht, l1, l2⟩
            · exact gd4 p' (List.mem_of_mem_drop e)
      · exact ⟨D, ps, _, _, rfl, hx3, by omega, gd3, g13⟩
    · intro σ' H3 hM
      obtain ⟨L, qs, y3, y4, rfl, hL, lq, gq, g13⟩ := hM
      refine ⟨.ref L, rfl, .ref L, rfl, 1, rfl, L, _, rfl, lOf hL, fun p4 n4 => ?_⟩
      have hcut : cutV (qs.map V.ref) none (some 1) = (qs.take 1).map V.ref := by
        rw [List.map_take]
        exact cut_to _ 1
      rw [hcut]
      have k4 : Kp [] H3 (upd H3 p4 (.lst ((qs.take 1).map V.ref))) := Kp.new n4
      have eL := k4 L _ (by simp) hL
      have e4 : upd H3 p4 (.lst ((qs.take 1).map V.ref)) p4 = some (.lst ((qs.take 1).map V.ref)) := upd_same
      generalize upd H3 p4 (.lst ((qs.take 1).map V.ref)) = H4 at k4 eL e4 ⊢
      have lt1 : (qs.take 1).length ≤ 1 := List.length_take_le 1 qs
      refine ⟨L, p4, _, _, rfl, rfl, eL, e4, ?_, fun p5 n5 => ?_⟩
      · rw [List.length_map, List.length_map]
        exact Nat.le_trans (show qs.length + (qs.take 1).length ≤ 13 by omega) (by decide)
      have em : qs.map V.ref ++ (qs.take 1).map V.ref = (qs ++ qs.take 1).map V.ref := by rw [List.map_append]
      rw [em]
      have k5 : Kp [] H3 (upd H4 p5 (.lst ((qs ++ qs.take 1).map V.ref))) := k4.trans (Kp.new n5)
      have e5 : upd H4 p5 (.lst ((qs ++ qs.take 1).map V.ref)) p5 = some (.lst ((qs ++ qs.take 1).map V.ref)) := upd_same
      generalize upd H4 p5 (.lst ((qs ++ qs.take 1).map V.ref)) = H5 at k5 e5 ⊢
      have g5 : Good H5 (qs ++ qs.take 1) := (gq.app (gq.sub fun p hp => List.mem_of_mem_take hp)).kp k5 NT.nil
      have g15 := TabG.kp g13 k5 (by simp)
      have lall : (qs ++ qs.take 1).length ≤ 13 := by rw [List.length_append]; omega
      have nP5 : p5 ∉ [T.P_least_places] := fun z => by
        obtain ⟨_, z1, _⟩ := g15
        rw [← List.mem_singleton.mp z, e5] at z1
        cases z1
      refine ⟨p5, rfl, ⟨_, lOf e5⟩, fun Dl nDl => ?_⟩
      have nPD : Dl ∉ [T.P_least_places] := fun z => by
        obtain ⟨_, z1, _⟩ := g15
        rw [← List.mem_singleton.mp z, nDl] at z1
        cases z1
      refine lc_it (walk_list (xs := (qs ++ qs.take 1).map V.ref)) (fun i H' => Kp [T.P_least_places] H5 H' ∧ TabG H' T.P_least_places ∧ H' Dl = some (.lst (List.replicate i (V.bl true)))) ⟨Kp.new nDl, TabG.kp g15 (Kp.new (M := []) nDl) (by simp), upd_same⟩ (fun i H' hi hp => hp.1.l nP5 (lOf e5)) (fun i x Ha Hb hi hp hy => ?_) fun H6 hp => ?_
      · obtain ⟨kA, gA, hA⟩ := hp
        obtain ⟨rfl, hx⟩ := hy
        rw [List.length_map] at hi
        rw [List.getElem?_map, List.getElem?_eq_getElem hi] at hx
        have ex : x = .ref (qs ++ qs.take 1)[i] := (Option.some.inj hx).symm
        subst ex
        obtain ⟨rows, ht, l1, l2⟩ := g5 _ (List.getElem_mem hi)
        have htA : TabAt Hb (qs ++ qs.take 1)[i] rows := ht.kp kA (NT.tab g15)
        refine ⟨rfl, .ref (qs ++ qs.take 1)[i], rfl, (qs ++ qs.take 1)[i], rows, rfl, htA, by omega, fun row hrow => Nat.le_trans (l2 row hrow) (by decide), gA, fun Hc kC gC => ?_⟩
        refine ⟨_, kC Dl _ nPD hA, by rw [List.length_replicate]; exact Nat.lt_of_le_of_lt (show i ≤ 13 by omega) (by decide), (kA.trans kC).mut nDl, ?_, ?_⟩
        · obtain ⟨ps1, z1, z2⟩ := gC
          exact ⟨ps1, by rw [upd_ne (fun z => nPD (List.mem_singleton.mpr z.symm))]; exact z1, z2⟩
        · rw [upd_same, List.replicate_succ']
      · obtain ⟨kA, gA, hA⟩ := hp
        refine ⟨Dl, List.replicate ((qs ++ qs.take 1).map V.ref).length true, rfl, lOf ?_, ?_⟩
        · rw [List.map_replicate]
          exact hA
        · rw [show (List.replicate ((qs ++ qs.take 1).map V.ref).length true).all id = true by simp]
          exact q _
end
end K15

namespace K15
open PySem PySem.Spec PyProof.Rows L2 GenW BT
theorem all_mk {q : Program} {w : World} {K : PySem.W.Frag} {h : Heap} {mg : Str → Option Value} {fa : Addr} (X : K.In h) (G : h.Ns mainGlobals mg) (hfa : mg "law" = some (.ref fa))
    (tabs : ∀ (y : Str) (c P : Addr), ((recsOf q).find? fun e => e.name == y).isSome = true → PySem.W.tabIn K y = some (c, P) → PySem.W.CodeHd h c P ∧ h.get? P = some { cls := .none, data := .fields #[] })
    {f0 : Addr} {od0 an0 : Option Addr} {sl0 : Array (Option Value)} {oc0 kV0 dc0 pm0 cd0 ct0 : Value}
    {f1 : Addr} {od1 an1 : Option Addr} {sl1 : Array (Option Value)} {oc1 kV1 dc1 pm1 cd1 ct1 : Value}
    {f2 : Addr} {od2 an2 : Option Addr} {sl2 : Array (Option Value)} {oc2 kV2 dc2 pm2 cd2 ct2 : Value}
    {f3 : Addr} {od3 an3 : Option Addr} {sl3 : Array (Option Value)} {oc3 kV3 dc3 pm3 cd3 ct3 : Value}
    {f4 : Addr} {od4 an4 : Option Addr} {sl4 : Array (Option Value)} {oc4 kV4 dc4 pm4 cd4 ct4 : Value}
    {f5 : Addr} {od5 an5 : Option Addr} {sl5 : Array (Option Value)} {oc5 kV5 dc5 pm5 cd5 ct5 : Value}
    {f6 : Addr} {od6 an6 : Option Addr} {sl6 : Array (Option Value)} {oc6 kV6 dc6 pm6 cd6 ct6 : Value}
    {f7 : Addr} {od7 an7 : Option Addr} {sl7 : Array (Option Value)} {oc7 kV7 dc7 pm7 cd7 ct7 : Value}
    {f8 : Addr} {od8 an8 : Option Addr} {sl8 : Array (Option Value)} {oc8 kV8 dc8 pm8 cd8 ct8 : Value}
    {f9 : Addr} {od9 an9 : Option Addr} {sl9 : Array (Option Value)} {oc9 kV9 dc9 pm9 cd9 ct9 : Value}
    {f10 : Addr} {od10 an10 : Option Addr} {sl10 : Array (Option Value)} {oc10 kV10 dc10 pm10 cd10 ct10 : Value}
    {f11 : Addr} {od11 an11 : Option Addr} {sl11 : Array (Option Value)} {oc11 kV11 dc11 pm11 cd11 ct11 : Value}
    {f12 : Addr} {od12 an12 : Option Addr} {sl12 : Array (Option Value)} {oc12 kV12 dc12 pm12 cd12 ct12 : Value}
    {f13 : Addr} {od13 an13 : Option Addr} {sl13 : Array (Option Value)} {oc13 kV13 dc13 pm13 cd13 ct13 : Value}
    {f14 : Addr} {od14 an14 : Option Addr} {sl14 : Array (Option Value)} {oc14 kV14 dc14 pm14 cd14 ct14 : Value}
    {f15 : Addr} {od15 an15 : Option Addr} {sl15 : Array (Option Value)} {oc15 kV15 dc15 pm15 cd15 ct15 : Value}
    {c_least_places P_least_places : Addr}
    {c_plain_table P_plain_table : Addr}
    (a0 : PySem.W.nsIn K mainGlobals "least_places" = some (some (.ref f0))) (l0 : K.lookup f0 = some ⟨oc0, od0, .func (PySem.W.fnOf "least_places" "least_places" (defArgs s_least_places) (defBody s_least_places) (defScope s_least_places) .none kV0 dc0 pm0 an0 cd0 ct0), sl0⟩) (c0 : PySem.W.codeIn K cd0 "least_places" = true) (k0 : PySem.W.keepIn K (.ref f0) = true)
    (a1 : PySem.W.nsIn K mainGlobals "least_place" = some (some (.ref f1))) (l1 : K.lookup f1 = some ⟨oc1, od1, .func (PySem.W.fnOf "least_place" "least_place" (defArgs s_least_place) (defBody s_least_place) (defScope s_least_place) .none kV1 dc1 pm1 an1 cd1 ct1), sl1⟩) (c1 : PySem.W.codeIn K cd1 "least_place" = true) (k1 : PySem.W.keepIn K (.ref f1) = true)
    (a2 : PySem.W.nsIn K mainGlobals "parts_of" = some (some (.ref f2))) (l2 : K.lookup f2 = some ⟨oc2, od2, .func (PySem.W.fnOf "parts_of" "parts_of" (defArgs s_parts_of) (defBody s_parts_of) (defScope s_parts_of) .none kV2 dc2 pm2 an2 cd2 ct2), sl2⟩) (c2 : PySem.W.codeIn K cd2 "parts_of" = true) (k2 : PySem.W.keepIn K (.ref f2) = true)
    (a3 : PySem.W.nsIn K mainGlobals "is_both" = some (some (.ref f3))) (l3 : K.lookup f3 = some ⟨oc3, od3, .func (PySem.W.fnOf "is_both" "is_both" (defArgs s_is_both) (defBody s_is_both) (defScope s_is_both) .none kV3 dc3 pm3 an3 cd3 ct3), sl3⟩) (c3 : PySem.W.codeIn K cd3 "is_both" = true) (k3 : PySem.W.keepIn K (.ref f3) = true)
    (a4 : PySem.W.nsIn K mainGlobals "plain_size" = some (some (.ref f4))) (l4 : K.lookup f4 = some ⟨oc4, od4, .func (PySem.W.fnOf "plain_size" "plain_size" (defArgs s_plain_size) (defBody s_plain_size) (defScope s_plain_size) .none kV4 dc4 pm4 an4 cd4 ct4), sl4⟩) (c4 : PySem.W.codeIn K cd4 "plain_size" = true) (k4 : PySem.W.keepIn K (.ref f4) = true)
    (a5 : PySem.W.nsIn K mainGlobals "plain_entry" = some (some (.ref f5))) (l5 : K.lookup f5 = some ⟨oc5, od5, .func (PySem.W.fnOf "plain_entry" "plain_entry" (defArgs s_plain_entry) (defBody s_plain_entry) (defScope s_plain_entry) .none kV5 dc5 pm5 an5 cd5 ct5), sl5⟩) (c5 : PySem.W.codeIn K cd5 "plain_entry" = true) (k5 : PySem.W.keepIn K (.ref f5) = true)
    (a6 : PySem.W.nsIn K mainGlobals "table_by" = some (some (.ref f6))) (l6 : K.lookup f6 = some ⟨oc6, od6, .func (PySem.W.fnOf "table_by" "table_by" (defArgs s_table_by) (defBody s_table_by) (defScope s_table_by) .none kV6 dc6 pm6 an6 cd6 ct6), sl6⟩) (c6 : PySem.W.codeIn K cd6 "table_by" = true) (k6 : PySem.W.keepIn K (.ref f6) = true)
    (a7 : PySem.W.nsIn K mainGlobals "plain_table" = some (some (.ref f7))) (l7 : K.lookup f7 = some ⟨oc7, od7, .func (PySem.W.fnOf "plain_table" "plain_table" (defArgs s_plain_table) (defBody s_plain_table) (defScope s_plain_table) .none kV7 dc7 pm7 an7 cd7 ct7), sl7⟩) (c7 : PySem.W.codeIn K cd7 "plain_table" = true) (k7 : PySem.W.keepIn K (.ref f7) = true)
    (a8 : PySem.W.nsIn K mainGlobals "_law_deck" = some (some (.ref f8))) (l8 : K.lookup f8 = some ⟨oc8, od8, .func (PySem.W.fnOf "_law_deck" "_law_deck" (defArgs s_law_deck) (defBody s_law_deck) (defScope s_law_deck) .none kV8 dc8 pm8 an8 cd8 ct8), sl8⟩) (c8 : PySem.W.codeIn K cd8 "_law_deck" = true) (k8 : PySem.W.keepIn K (.ref f8) = true)
    (a9 : PySem.W.nsIn K mainGlobals "_law_draw" = some (some (.ref f9))) (l9 : K.lookup f9 = some ⟨oc9, od9, .func (PySem.W.fnOf "_law_draw" "_law_draw" (defArgs s_law_draw) (defBody s_law_draw) (defScope s_law_draw) .none kV9 dc9 pm9 an9 cd9 ct9), sl9⟩) (c9 : PySem.W.codeIn K cd9 "_law_draw" = true) (k9 : PySem.W.keepIn K (.ref f9) = true)
    (a10 : PySem.W.nsIn K mainGlobals "_law_size" = some (some (.ref f10))) (l10 : K.lookup f10 = some ⟨oc10, od10, .func (PySem.W.fnOf "_law_size" "_law_size" (defArgs s_law_size) (defBody s_law_size) (defScope s_law_size) .none kV10 dc10 pm10 an10 cd10 ct10), sl10⟩) (c10 : PySem.W.codeIn K cd10 "_law_size" = true) (k10 : PySem.W.keepIn K (.ref f10) = true)
    (a11 : PySem.W.nsIn K mainGlobals "_law_table" = some (some (.ref f11))) (l11 : K.lookup f11 = some ⟨oc11, od11, .func (PySem.W.fnOf "_law_table" "_law_table" (defArgs s_law_table) (defBody s_law_table) (defScope s_law_table) .none kV11 dc11 pm11 an11 cd11 ct11), sl11⟩) (c11 : PySem.W.codeIn K cd11 "_law_table" = true) (k11 : PySem.W.keepIn K (.ref f11) = true)
    (a12 : PySem.W.nsIn K mainGlobals "_law_least" = some (some (.ref f12))) (l12 : K.lookup f12 = some ⟨oc12, od12, .func (PySem.W.fnOf "_law_least" "_law_least" (defArgs s_law_least) (defBody s_law_least) (defScope s_law_least) .none kV12 dc12 pm12 an12 cd12 ct12), sl12⟩) (c12 : PySem.W.codeIn K cd12 "_law_least" = true) (k12 : PySem.W.keepIn K (.ref f12) = true)
    (a13 : PySem.W.nsIn K mainGlobals "_law_told_table" = some (some (.ref f13))) (l13 : K.lookup f13 = some ⟨oc13, od13, .func (PySem.W.fnOf "_law_told_table" "_law_told_table" (defArgs s_law_told_table) (defBody s_law_told_table) (defScope s_law_told_table) .none kV13 dc13 pm13 an13 cd13 ct13), sl13⟩) (c13 : PySem.W.codeIn K cd13 "_law_told_table" = true) (k13 : PySem.W.keepIn K (.ref f13) = true)
    (a14 : PySem.W.nsIn K mainGlobals "_law_right" = some (some (.ref f14))) (l14 : K.lookup f14 = some ⟨oc14, od14, .func (PySem.W.fnOf "_law_right" "_law_right" (defArgs s_law_right) (defBody s_law_right) (defScope s_law_right) .none kV14 dc14 pm14 an14 cd14 ct14), sl14⟩) (c14 : PySem.W.codeIn K cd14 "_law_right" = true) (k14 : PySem.W.keepIn K (.ref f14) = true)
    (a15 : PySem.W.nsIn K mainGlobals "law" = some (some (.ref f15))) (l15 : K.lookup f15 = some ⟨oc15, od15, .func (PySem.W.fnOf "law" "law" (defArgs s_law) (defBody s_law) (defScope s_law) .none kV15 dc15 pm15 an15 cd15 ct15), sl15⟩) (c15 : PySem.W.codeIn K cd15 "law" = true) (k15 : PySem.W.keepIn K (.ref f15) = true)
    (e_least_places : cd0 = .ref c_least_places) (t_least_places : PySem.W.tabIn K "least_places" = some (c_least_places, P_least_places)) (n_least_places : K.lookup P_least_places = none)
    (e_plain_table : cd7 = .ref c_plain_table) (t_plain_table : PySem.W.tabIn K "plain_table" = some (c_plain_table, P_plain_table)) (n_plain_table : K.lookup P_plain_table = none)
    (z_tuple : PySem.W.nsIn K mainGlobals "tuple" = some none)
    (z_enumerate : PySem.W.nsIn K mainGlobals "enumerate" = some none)
    (z_isinstance : PySem.W.nsIn K mainGlobals "isinstance" = some none)
    (z_len : PySem.W.nsIn K mainGlobals "len" = some none)
    (z_abs : PySem.W.nsIn K mainGlobals "abs" = some none)
    (z_range : PySem.W.nsIn K mainGlobals "range" = some none)
    (z_list : PySem.W.nsIn K mainGlobals "list" = some none)
    (z_int : PySem.W.nsIn K mainGlobals "int" = some none)
    (z_min : PySem.W.nsIn K mainGlobals "min" = some none)
    (z_zip : PySem.W.nsIn K mainGlobals "zip" = some none)
    (z_bool : PySem.W.nsIn K mainGlobals "bool" = some none)
    (z_all : PySem.W.nsIn K mainGlobals "all" = some none)
    (r_least_places : ((recsOf q).find? fun e => e.name == ("least_places" : Str)).isSome = true)
    (r_plain_table : ((recsOf q).find? fun e => e.name == ("plain_table" : Str)).isSome = true)
    : LamX.LawAtS PySem.Challenge.rw_bendtables_k15_least_places_of_any_table w K L2.CX0 12 63 "_law_script" mg fa h := by
  have e := hfa.symm.trans (PySem.W.mg_of X G a15)
  cases e
  let T : Txt K mg := { least_places := d1_mk X G a0 l0 c0 k0 fun _ _ _ _ _ _ us hl => match us, hl with | [_, _], _ => rfl, least_place := d1_mk X G a1 l1 c1 k1 fun _ _ _ _ _ _ us hl => match us, hl with | [_, _], _ => rfl, parts_of := d1_mk X G a2 l2 c2 k2 fun _ _ _ _ _ _ us hl => match us, hl with | [_], _ => rfl, is_both := d1_mk X G a3 l3 c3 k3 fun _ _ _ _ _ _ us hl => match us, hl with | [_], _ => rfl, plain_size := d1_mk X G a4 l4 c4 k4 fun _ _ _ _ _ _ us hl => match us, hl with | [_], _ => rfl, plain_entry := d1_mk X G a5 l5 c5 k5 fun _ _ _ _ _ _ us hl => match us, hl with | [_, _, _], _ => rfl, table_by := d1_mk X G a6 l6 c6 k6 fun _ _ _ _ _ _ us hl => match us, hl with | [_], _ => rfl, plain_table := d1_mk X G a7 l7 c7 k7 fun _ _ _ _ _ _ us hl => match us, hl with | [_], _ => rfl, law_deck := d1_mk X G a8 l8 c8 k8 fun _ _ _ _ _ _ us hl => match us, hl with | [_], _ => rfl, law_draw := d1_mk X G a9 l9 c9 k9 fun _ _ _ _ _ _ us hl => match us, hl with | [_, _], _ => rfl, law_size := d1_mk X G a10 l10 c10 k10 fun _ _ _ _ _ _ us hl => match us, hl with | [_], _ => rfl, law_table := d1_mk X G a11 l11 c11 k11 fun _ _ _ _ _ _ us hl => match us, hl with | [_], _ => rfl, law_least := d1_mk X G a12 l12 c12 k12 fun _ _ _ _ _ _ us hl => match us, hl with | [_, _], _ => rfl, law_told_table := d1_mk X G a13 l13 c13 k13 fun _ _ _ _ _ _ us hl => match us, hl with | [_], _ => rfl, law_right := d1_mk X G a14 l14 c14 k14 fun _ _ _ _ _ _ us hl => match us, hl with | [_], _ => rfl, law := d1_mk X G a15 l15 c15 k15 fun _ _ _ _ _ _ us hl => match us, hl with | [_], _ => rfl, c_least_places := c_least_places, P_least_places := P_least_places, h_least_places := e_least_places, c_plain_table := c_plain_table, P_plain_table := P_plain_table, h_plain_table := e_plain_table, b_tuple := PySem.W.mg_none_of X G z_tuple, b_enumerate := PySem.W.mg_none_of X G z_enumerate, b_isinstance := PySem.W.mg_none_of X G z_isinstance, b_len := PySem.W.mg_none_of X G z_len, b_abs := PySem.W.mg_none_of X G z_abs, b_range := PySem.W.mg_none_of X G z_range, b_list := PySem.W.mg_none_of X G z_list, b_int := PySem.W.mg_none_of X G z_int, b_min := PySem.W.mg_none_of X G z_min, b_zip := PySem.W.mg_none_of X G z_zip, b_bool := PySem.W.mg_none_of X G z_bool, b_all := PySem.W.mg_none_of X G z_all }
  refine ⟨T.law.fd, [(c_least_places, P_least_places), (c_plain_table, P_plain_table)], spLaw T, fun p hp => ?_, fun p hp => ?_, fun p hp => ?_, fun s u => .of_eq rfl, fun H a ns hl hb hH hS => ?_, fun base _ _ TB => ok_law T ?_⟩
  · rcases List.mem_cons.mp hp with z | hp
    · rw [z]; exact (tabs _ _ _ r_least_places t_least_places).2
    rw [List.mem_singleton.mp hp]; exact (tabs _ _ _ r_plain_table t_plain_table).2
  · rcases List.mem_cons.mp hp with z | hp
    · rw [z]; exact n_least_places
    rw [List.mem_singleton.mp hp]; exact n_plain_table
  · rcases List.mem_cons.mp hp with z | hp
    · rw [z]; exact (tabs _ _ _ r_least_places t_least_places).1
    rw [List.mem_singleton.mp hp]; exact (tabs _ _ _ r_plain_table t_plain_table).1
  · exact law_start T H a ns hl hb hH hS
  · exact ⟨toB (TB (c_least_places, P_least_places) (by simp)), toB (TB (c_plain_table, P_plain_table) (by simp))⟩
end K15
open PySem PySem.W PyProof.Rows
set_option maxHeartbeats 0 in
theorem PySem.Challenge.cw_bendtables_k15_least_places_of_any_table_holds : PySem.Challenge.rw_bendtables_k15_least_places_of_any_table.Holds := by
  w_on; o_law; k_head; (case hw => w_witness2)
  k_fill
  refine BT.walk_tabs (l := PySem.Challenge.rw_bendtables_k15_least_places_of_any_table) (n := 63) (k := 12) (x := "_law_script") (CX := fun _ => L2.CX0) rfl (by decide) rfl ⟨rfl, by decide, by decide⟩ (fun w h Y => PySem.W.kIn_of Y) ?F (fun _ _ _ _ _ h => h)
  case F =>
    intro w mg fa h Yh KX G hmg tabs
    refine' K15.all_mk KX G hmg tabs ?a0 ?l0 ?c0 ?k0 ?a1 ?l1 ?c1 ?k1 ?a2 ?l2 ?c2 ?k2 ?a3 ?l3 ?c3 ?k3 ?a4 ?l4 ?c4 ?k4 ?a5 ?l5 ?c5 ?k5 ?a6 ?l6 ?c6 ?k6 ?a7 ?l7 ?c7 ?k7 ?a8 ?l8 ?c8 ?k8 ?a9 ?l9 ?c9 ?k9 ?a10 ?l10 ?c10 ?k10 ?a11 ?l11 ?c11 ?k11 ?a12 ?l12 ?c12 ?k12 ?a13 ?l13 ?c13 ?k13 ?a14 ?l14 ?c14 ?k14 ?a15 ?l15 ?c15 ?k15 ?e_least_places ?t_least_places ?n_least_places ?e_plain_table ?t_plain_table ?n_plain_table ?z_tuple ?z_enumerate ?z_isinstance ?z_len ?z_abs ?z_range ?z_list ?z_int ?z_min ?z_zip ?z_bool ?z_all ?r_least_places ?r_plain_table
    (case a0 => k_is); (case l0 => k_is); (case c0 => k_is); (case k0 => k_is); (case a1 => k_is); (case l1 => k_is); (case c1 => k_is); (case k1 => k_is); (case a2 => k_is); (case l2 => k_is); (case c2 => k_is); (case k2 => k_is); (case a3 => k_is); (case l3 => k_is); (case c3 => k_is); (case k3 => k_is); (case a4 => k_is); (case l4 => k_is); (case c4 => k_is); (case k4 => k_is); (case a5 => k_is); (case l5 => k_is); (case c5 => k_is); (case k5 => k_is); (case a6 => k_is); (case l6 => k_is); (case c6 => k_is); (case k6 => k_is); (case a7 => k_is); (case l7 => k_is); (case c7 => k_is); (case k7 => k_is); (case a8 => k_is); (case l8 => k_is); (case c8 => k_is); (case k8 => k_is); (case a9 => k_is); (case l9 => k_is); (case c9 => k_is); (case k9 => k_is); (case a10 => k_is); (case l10 => k_is); (case c10 => k_is); (case k10 => k_is); (case a11 => k_is); (case l11 => k_is); (case c11 => k_is); (case k11 => k_is); (case a12 => k_is); (case l12 => k_is); (case c12 => k_is); (case k12 => k_is); (case a13 => k_is); (case l13 => k_is); (case c13 => k_is); (case k13 => k_is); (case a14 => k_is); (case l14 => k_is); (case c14 => k_is); (case k14 => k_is); (case a15 => k_is); (case l15 => k_is); (case c15 => k_is); (case k15 => k_is); (case e_least_places => first | rfl | k_is); (case t_least_places => first | rfl | k_is); (case n_least_places => first | rfl | k_is); (case e_plain_table => first | rfl | k_is); (case t_plain_table => first | rfl | k_is); (case n_plain_table => first | rfl | k_is); (case z_tuple => k_is); (case z_enumerate => k_is); (case z_isinstance => k_is); (case z_len => k_is); (case z_abs => k_is); (case z_range => k_is); (case z_list => k_is); (case z_int => k_is); (case z_min => k_is); (case z_zip => k_is); (case z_bool => k_is); (case z_all => k_is); (case r_least_places => first | rfl | decide +kernel); (case r_plain_table => first | rfl | decide +kernel)
