import PyProof.Rows.All
import Wide.All
import OpenK.AllK
import Wide.FinOn
import HandS.ForMost
import HandS.GenList
import HandS.AnyAll
import PyProof.TupleOfGen
import KE.GoesMore
import HandS.Zip
import HandS.Walk
import HandS.EndTab
import HandS.Style
import HandS.IsInst
import HandS.Evl
import HandS.More
import HandS.TupMul
import PyProof.EqKinds
import PyProof.Rows.IntBool
import PyProof.CallStr
import HandS.TupAny
import HandS.TryOnly
import HandS.Conv
import HandS.Text
import HandS.Codes
import HandS.StrMore
import KE.IntTextLaws
import PyProof.StrLawsAffix
import PyProof.Rows.StrDigitsNeg
import HandS.SortInts
import KE.DatumOrd
import KE.DataMinMax
import PySem.Challenge.RW_bendtables_k30_joined_by_any_hand
set_option Elab.async false
set_option linter.all false
set_option maxRecDepth 100000
set_option maxHeartbeats 4000000
namespace BT
open PySem PySem.Spec PyProof.Rows L2 GenW

theorem over_lp {A : Around} {G : Expr} {el it0 tg : Expr} {fs : List Expr} {sc : Scope} {po : Pos} {i a : Value} {env : Env} (hG : G = .GeneratorExp el [⟨tg, it0, fs, 0⟩] sc po) :
    A.over (.compLoop G 0 i a env) [] = A.deeper env := by
  subst hG
  rfl
theorem over_st {A : Around} {G : Expr} {el it0 tg : Expr} {fs : List Expr} {sc : Scope} {po : Pos} {i a : Value} {env : Env} (hG : G = .GeneratorExp el [⟨tg, it0, fs, 0⟩] sc po) :
    A.over (.compStart G 0 i a env) [] = A.deeper env := by
  subst hG
  rfl

/-- the context of a generator expression's element -/
def gxc (X : Cx) (N : List Str) (cenv : Env) (A : Around) (sc : Shared) (H : Hp) (ex : List Addr) (pn : List (Addr × Obj)) : Cx where
  prog := X.prog
  w := X.w
  K := X.K
  mg := X.mg
  base := X.base
  A := A.deeper cenv
  N := N
  s_0 := sc
  H_0 := H
  env := cenv
  outer := X.stack
  stack := cenv :: X.stack
  ex := ex
  fn := fun x => cenv.scope.names.lookup x == some .cell
  calm := true
  pn := pn
  xe := fun _ _ => False

/-- names: js tells for each name of the element's frame the slot of the def around, or none -/
structure GxOk (XN : List Str) (xs : Scope) (N : List Str) (js : List (Option Nat)) (scope : Scope) : Prop where
  kind : scope.kind = .function
  co : scope.isCoroutine = false
  nodup : (scope.names.map (·.1)).Nodup
  dot : scope.names.lookup (".0" : Str) = some NameKind.local
  len : js.length = N.length
  cap : ∀ i j : Nat, js[i]? = some (some j) → ∃ x : Str, N[i]? = some x ∧ XN[j]? = some x ∧ scope.names.lookup x = some .free ∧ xs.names.lookup x = some .cell
  fre : ∀ y ∈ scope.names, y.2 = .free → xs.names.lookup y.1 = some .cell

def gxC (XN : List Str) (xs : Scope) (N : List Str) (js : List (Option Nat)) (scope : Scope) : Bool :=
  (scope.kind == .function) && !scope.isCoroutine && decide ((scope.names.map (·.1)).Nodup) && (scope.names.lookup (".0" : Str) == some NameKind.local) && (js.length == N.length) &&
  (List.range js.length).all (fun i => match js[i]? with
    | some (some j) => match N[i]? with
      | some x => (XN[j]? == some x) && (scope.names.lookup x == some .free) && (xs.names.lookup x == some .cell)
      | none => false
    | _ => true) &&
  scope.names.all (fun y => !(y.2 == .free) || (xs.names.lookup y.1 == some .cell))
theorem gxOk_by {XN : List Str} {xs : Scope} {N : List Str} {js : List (Option Nat)} {scope : Scope} (h : gxC XN xs N js scope = true) : GxOk XN xs N js scope := by
  unfold gxC at h
  simp only [Bool.and_eq_true, beq_iff_eq, List.all_eq_true, Bool.not_eq_true', List.mem_range, Bool.or_eq_true, decide_eq_true_eq] at h
  obtain ⟨⟨⟨⟨⟨⟨h1, h2⟩, h3⟩, h4⟩, h5⟩, h6⟩, h7⟩ := h
  refine ⟨h1, h2, h3, h4, h5, fun i j e => ?_, fun y hy e => ?_⟩
  · have q := h6 i (List.getElem?_eq_some_iff.mp e).1
    rw [e] at q
    cases hN : N[i]? with
    | none => simp [hN] at q
    | some x =>
      simp only [hN, Bool.and_eq_true, beq_iff_eq] at q
      exact ⟨x, rfl, q.1.1, q.1.2, q.2⟩
  · rcases h7 y hy with q | q
    · rw [e] at q
      exact absurd q (by decide)
    · exact q
/-- the slots at the frame's beginning -/
def capt (σ : L2.St) (js : List (Option Nat)) : L2.St := js.map fun o => o.bind fun j => (σ[j]?).join
def Le (σ σ' : L2.St) : Prop := σ'.length = σ.length ∧ ∀ (i : Nat) v, σ[i]? = some (some v) → σ'[i]? = some (some v)
theorem Le.refl (σ : L2.St) : Le σ σ := ⟨rfl, fun _ _ e => e⟩
theorem Le.trans {a b c : L2.St} (x : Le a b) (y : Le b c) : Le a c := ⟨y.1.trans x.1, fun i v e => y.2 i v (x.2 i v e)⟩
theorem Le.set {σ : L2.St} {i : Nat} {v : Option V} (h : σ[i]? = some none) : Le σ (σ.set i v) := by
  refine ⟨by simp, fun j w e => ?_⟩
  by_cases hj : i = j
  · subst hj
    rw [h] at e
    cases e
  · rw [List.getElem?_set_ne hj]
    exact e

/-- the consumer's own objects at B bear what came out -/
structure Cons (B : List Addr) (Cr : List V → Heap → Prop) : Prop where
  obj : ∀ ys h, Cr ys h → ∀ b ∈ B, ∃ o, h.get? b = some o ∧ ∀ v, o.data ≠ .cell v
  keep : ∀ ys h h', Cr ys h → (∀ b ∈ B, ∀ o, h.get? b = some o → h'.get? b = some o) → Cr ys h'
def pinsOf (B : List Addr) (h : Heap) : List (Addr × Obj) := B.filterMap fun b => (h.get? b).map fun o => (b, o)
theorem mem_pinsOf {B : List Addr} {h : Heap} {p : Addr × Obj} (hp : p ∈ pinsOf B h) : p.1 ∈ B ∧ h.get? p.1 = some p.2 := by
  obtain ⟨b, hb, e⟩ := List.mem_filterMap.mp hp
  cases q : h.get? b with
  | none => rw [q] at e; cases e
  | some o =>
    rw [q] at e
    cases e
    exact ⟨hb, q⟩
theorem pinsOf_mem {B : List Addr} {h : Heap} {b : Addr} {o : Obj} (hb : b ∈ B) (e : h.get? b = some o) : (b, o) ∈ pinsOf B h :=
  List.mem_filterMap.mpr ⟨b, hb, by rw [e]; rfl⟩

def Abs (X : Cx) (H1 : Hp) (sc : Shared) (ex B : List Addr) (H : Hp) (s : Shared) : Prop :=
  s.os = sc.os ∧ AllBare s.gens ∧ Un (frs X.stack) ex H1 H sc.heap s.heap ∧ HOk X.prog X.w H s.heap ∧ ∀ b ∈ B, H b = none
def YG (X : Cx) (H1 : Hp) (sc : Shared) (ex B : List Addr) (Cr : List V → Heap → Prop) (W : List V → Hp → Prop) (Out : List V → V → Hp → Prop) (a : Addr) (g : Nat) : Protocol := fun n s₀ v s1 kap =>
  ∃ ys y H, n + 1 + ys.length = sizeLine ∧ RelV y v ∧ Out ys y H ∧ Cr ys s1.heap ∧ Abs X H1 sc ex B H s1 ∧ s1.heap.NoLimit ∧ s1.heap.IsGen a g ∧
    ∀ s', W (ys ++ [y]) H → Cr (ys ++ [y]) s'.heap → s'.os = sc.os → AllBare s'.gens → (∀ b o, b ∉ B → s1.heap.get? b = some o → s'.heap.get? b = some o) → kap (.send .none) s'
def RG (X : Cx) (H1 : Hp) (sc : Shared) (ex B : List Addr) (Cr : List V → Heap → Prop) (Fin : List V → Hp → Prop) : GenEnd := fun n s₀ r s1 =>
  r = .ok .next ∧ ∃ ys H, ys.length ≤ sizeLine ∧ Fin ys H ∧ Cr ys s1.heap ∧ Abs X H1 sc ex B H s1

/-- the turns -/
def GStep (J : It) (g : TG) (te : TE) (σg : L2.St) (W Fin : List V → Hp → Prop) (Out : List V → V → Hp → Prop) : Prop :=
  ∀ ys H, W ys H → (J.stop ys.length H ∧ Fin ys H) ∨ (J.go ys.length H ∧ ∀ x H', J.yld ys.length H x H' → g x σg H' fun σ2 H2 => Le σg σ2 ∧ te σ2 H2 fun y H3 => ys.length < sizeLine ∧ Out ys y H3)

section
variable {X : Cx} {N : List Str} {scope : Scope} {C bi : Addr} {cl : List (Str × Addr)} {code : Value} {A : Around} {sc : Shared} {H1 : Hp} {fp B : List Addr} {a : Addr} {gn : Nat} {go : Obj}
  {elt tg iter : Expr} {pos : Pos} {J : It} {it : Addr} {tn : Nat → Heap → Prop} {g : TG} {te : TE} {σg : L2.St} {W Fin : List V → Hp → Prop} {Out : List V → V → Hp → Prop} {Cr : List V → Heap → Prop}

theorem gloop (hco : scope.isCoroutine = false) (hgo : ∀ h : Heap, h.get? a = some go → h.IsGen a gn) (T : Turn X.prog X.w X.K tg J fp it tn) (CB : Cons B Cr) (hB : ∀ b ∈ B, sc.heap.objs.size ≤ b ∧ b ≠ C ∧ b ≠ a ∧ (∀ x c, cl.lookup x = some c → c ≠ b) ∧ b ∉ fp)
    (hg : PG (gxc X N (genEnv scope cl C code bi X.env) A sc H1 fp [(a, go)]) tg g) (he : PE (gxc X N (genEnv scope cl C code bi X.env) A sc H1 fp [(a, go)]) elt te) (step : GStep J g te σg W Fin Out) :
    ∀ (m : Nat) (ys : List V) (s₀ s : Shared) (H : Hp), m + ys.length = sizeLine → W ys H → Cr ys s.heap → Inv (gxc X N (genEnv scope cl C code bi X.env) A sc H1 fp [(a, go)]) (pinsOf B s.heap) σg H s →
      (∀ b ∈ fp, FpOk (gxc X N (genEnv scope cl C code bi X.env) A sc H1 fp [(a, go)]) (pinsOf B s.heap) H b) → tn ys.length s.heap →
      Seg (model X.prog X.w) A (RG X H1 sc fp B Cr Fin) (YG X H1 sc fp B Cr W Out a gn) m s₀ (.compLoop (.GeneratorExp elt [⟨tg, iter, [], 0⟩] scope pos) 0 (.ref it) .none (genEnv scope cl C code bi X.env))
        ((model X.prog X.w).den (.compLoop (.GeneratorExp elt [⟨tg, iter, [], 0⟩] scope pos) 0 (.ref it) .none (genEnv scope cl C code bi X.env))) [] s := by
  intro m
  induction m using Nat.strongRecOn with
  | ind m ih =>
  intro ys s₀ s H hm hW hCr I hF ht
  have absOf : ∀ {pins : List (Addr × Obj)} {σ : L2.St} {H' : Hp} {s' : Shared}, (∀ b ∈ B, ∃ o, (b, o) ∈ pins) → Inv (gxc X N (genEnv scope cl C code bi X.env) A sc H1 fp [(a, go)]) pins σ H' s' → Abs X H1 sc fp B H' s' :=
    fun {pins σ H' s'} hp J' => ⟨J'.os, J'.bare, J'.base, J'.hok, fun b hb => by
      obtain ⟨o, ho⟩ := hp b hb
      exact (J'.pin (b, o) (List.mem_append_right _ ho)).2.1⟩
  have pinB : ∀ b ∈ B, ∃ o, (b, o) ∈ pinsOf B s.heap := fun b hb => by
    obtain ⟨o, ho, _⟩ := CB.obj ys _ hCr b hb
    exact ⟨o, pinsOf_mem hb ho⟩
  have crOf : ∀ {σ : L2.St} {H' : Hp} {s' : Shared}, Inv (gxc X N (genEnv scope cl C code bi X.env) A sc H1 fp [(a, go)]) (pinsOf B s.heap) σ H' s' → Cr ys s'.heap := fun {σ H' s'} J' =>
    CB.keep ys _ _ hCr fun b hb o ho => (J'.pin (b, o) (List.mem_append_right _ (pinsOf_mem hb ho))).1
  show Seg _ A _ _ _ s₀ _ ((compTurn (.GeneratorExp elt [⟨tg, iter, [], 0⟩] scope pos) 0 (.ref it) .none (genEnv scope cl C code bi X.env)).onRaise (leaving _)) [] s
  rw [compTurn_gen, Sem.onRaise_eq_wrap]
  refine seg_bind_wrap (wpAny_standAt (seg_bind_wrap ?_))
  rw [over_lp rfl]
  rcases step ys H hW with ⟨hs, hfin⟩ | ⟨hgo', hgo2⟩
  · refine wpAny_mono (T.done (gxc X N (genEnv scope cl C code bi X.env) A sc H1 fp [(a, go)]) rfl rfl rfl rfl ys.length _ s σg H (fun _ _ => False) I hF ht hs) (fun r s1 h1 => ?_) fun _ _ z => z.elim
    obtain ⟨rfl, I1⟩ := h1
    exact seg_end (.ok .next) ⟨rfl, ys, H, by omega, hfin, crOf I1, absOf pinB I1⟩
  · refine wpAny_mono (T.item (gxc X N (genEnv scope cl C code bi X.env) A sc H1 fp [(a, go)]) rfl rfl rfl rfl ys.length _ s σg H (fun _ _ => False) I hF ht hgo') (fun r s1 h1 => ?_) fun _ _ z => z.elim
    obtain ⟨u, rfl, h1⟩ := h1
    refine seg_bind_wrap ?_
    rw [over_lp rfl]
    refine wpAny_mono h1 (fun _ s2 h2 => ?_) fun _ _ z => z.elim
    obtain ⟨x, H2, I2, rx, hy, ht2, hF2⟩ := h2
    have objF := T.obj _ _ ht2
    have I3 : Inv (gxc X N (genEnv scope cl C code bi X.env) A sc H1 fp [(a, go)]) (pinsOf B s.heap ++ pinsOf fp s2.heap) σg H2 s2 := I2.pins_of fun p hp => by
      rcases List.mem_append.mp hp with z | z
      · exact I2.pin p (List.mem_append_right _ z)
      · obtain ⟨z1, z2⟩ := mem_pinsOf z
        obtain ⟨_, f1, f2, _, _, _⟩ := hF p.1 z1
        obtain ⟨o, ho, hd⟩ := objF p.1 z1
        rw [ho] at z2
        cases z2
        exact ⟨ho, hF2 _ z1, f1, f2, hd⟩
    refine seg_bind_wrap ?_
    rw [over_lp rfl]
    refine wpAny_mono (hg.run _ s2 σg H2 x u _ I3 rx (hgo2 x H2 hy)) (fun _ s3 h3 => ?_) fun _ _ z => z.elim
    obtain ⟨σ3, H3, J3, le3, q3⟩ := h3
    simp only [List.forIn_nil]
    refine seg_bind_wrap (wpAny_pure ?_)
    simp only [if_true]
    have hyo : ∀ v, yieldOut (genEnv scope cl C code bi X.env) v = yieldValue v := fun v => by
      unfold yieldOut
      rw [show (genEnv scope cl C code bi X.env).scope.isCoroutine = false from hco]
      rfl
    simp only [hyo]
    rw [Sem.bind_eq_wrap', Sem.bind_eq_wrap', Sem.wrap_wrap, Sem.wrap_wrap]
    refine seg_wrap ?_
    rw [over_lp rfl]
    refine wpAny_mono (he.run _ s3 σ3 H3 _ J3 q3) (fun yv s4 h4 => ?_) fun _ _ z => z.elim
    obtain ⟨y, H4, J4, ry, hlt, hout⟩ := h4
    obtain ⟨m', rfl⟩ : ∃ m', m = m' + 1 := ⟨m - 1, by omega⟩
    have inL : ∀ {p : Addr × Obj}, p ∈ pinsOf B s.heap → p ∈ [(a, go)] ++ (pinsOf B s.heap ++ pinsOf fp s2.heap) := fun z => List.mem_append_right _ (List.mem_append_left _ z)
    have inR : ∀ {p : Addr × Obj}, p ∈ pinsOf fp s2.heap → p ∈ [(a, go)] ++ (pinsOf B s.heap ++ pinsOf fp s2.heap) := fun z => List.mem_append_right _ (List.mem_append_right _ z)
    have cr4 : Cr ys s4.heap := CB.keep ys _ _ hCr fun b hb o ho => (J4.pin (b, o) (inL (pinsOf_mem hb ho))).1
    have fpk : ∀ b ∈ fp, ∀ o, s2.heap.get? b = some o → s4.heap.get? b = some o := fun b hb o ho => (J4.pin (b, o) (inR (pinsOf_mem hb ho))).1
    have ht4 : tn (ys.length + 1) s4.heap := T.keep _ _ _ ht2 fpk
    have B4 : ∀ b ∈ B, H4 b = none ∧ b ≠ C ∧ b ∉ frs X.stack := fun b hb => by
      obtain ⟨o, ho⟩ := pinB b hb
      obtain ⟨_, q1, q2, q3, _⟩ := J4.pin (b, o) (inL ho)
      exact ⟨q1, q2, q3⟩
    have F4 : ∀ b ∈ fp, H4 b = none := fun b hb => by
      obtain ⟨o, ho, _⟩ := objF b hb
      exact (J4.pin (b, o) (inR (pinsOf_mem hb ho))).2.1
    refine seg_at (seg_yield rfl rfl rfl ⟨ys, y, H4, by omega, ry, hout, cr4, ⟨J4.os, J4.bare, J4.base, J4.hok, fun b hb => (B4 b hb).1⟩, J4.nolimit, hgo _ (J4.pin (a, go) (List.mem_append_left _ (List.mem_singleton.mpr rfl))).1, fun s5 hW5 hC5 ho5 hb5 hk5 => ?_⟩)
    have J4' : Inv (gxc X N (genEnv scope cl C code bi X.env) A sc H1 fp [(a, go)]) [] σg H4 s4 := (J4.weak le3.1.symm le3.2).pins_of fun p hp => by cases hp
    have nB : ∀ b u, H4 b = some u → b ∉ B := fun b u e hb => by
      rw [(B4 b hb).1] at e
      cases e
    have hok5 : HOk X.prog X.w H4 s5.heap := fun b u e => (J4'.hok b u e).stay (fun c v hc q => hk5 c v (by
        rcases hc with z | z
        · rw [z]; exact nB b u e
        · exact nB c _ z) q) (fun _ q => q) fun _ _ q => q
    have J5 : Inv (gxc X N (genEnv scope cl C code bi X.env) A sc H1 fp [(a, go)]) [] σg H4 s5 := J4'.call' (ch := B) (ho5.trans J4'.os.symm)
      ⟨fun b o e n _ hx => hk5 b o hx e, fun b o e n _ hx => ⟨o.slots, hk5 b o hx e⟩, fun b o e n _ => n, fun b o e hx => ⟨o, hk5 b o hx e⟩, fun _ _ q => q, fun _ _ _ q => q, fun b ps q => ⟨#[], by rw [q]; simp⟩⟩ hok5 hb5
      fun b hb => ⟨.inr (hB b hb).1, (hB b hb).2.1, (hB b hb).2.2.2.1, fun p hp => by
        rcases List.mem_append.mp hp with z | z
        · rw [List.mem_singleton.mp z]
          exact Ne.symm (hB b hb).2.2.1
        · cases z⟩
    have J6 : Inv (gxc X N (genEnv scope cl C code bi X.env) A sc H1 fp [(a, go)]) (pinsOf B s5.heap) σg H4 s5 := J5.pins_of fun p hp => by
      obtain ⟨z1, z2⟩ := mem_pinsOf hp
      obtain ⟨o, ho, hd⟩ := CB.obj _ _ hC5 p.1 z1
      rw [ho] at z2
      cases z2
      exact ⟨ho, (B4 _ z1).1, (B4 _ z1).2.1, (B4 _ z1).2.2, hd⟩
    have hl5 : (ys ++ [y]).length = ys.length + 1 := by simp
    refine seg_again rfl (ih m' (by omega) (ys ++ [y]) s5 s5 H4 (by omega) hW5 hC5 J6 (fun b hb => ?_) ?_)
    · obtain ⟨_, f1, f2, f3, f4, f5⟩ := hF b hb
      refine ⟨F4 b hb, f1, f2, f3, f4, fun p hp => ?_⟩
      rcases List.mem_append.mp hp with z | z
      · exact f5 p (List.mem_append_left _ z)
      · obtain ⟨z1, _⟩ := mem_pinsOf z
        exact fun z => (hB p.1 z1).2.2.2.2 (by rw [z]; exact hb)
    · rw [hl5]
      exact T.keep _ _ _ ht4 fun b hb o e => hk5 b o (fun hb2 => (hB b hb2).2.2.2.2 hb) e
end
end BT

namespace BT
open PySem PySem.Spec PyProof.Rows L2 GenW
abbrev TabB := @GxR.TabB
abbrev TabG := @GxR.TabG
abbrev Tabbed := @GxR.Tabbed

/-- a generator of an expression that has not begun -/
def GM (X : Cx) (k : Nat) (H1 : Hp) (sc : Shared) (ex : List Addr) (W Fin : List V → Hp → Prop) (Out : List V → V → Hp → Prop) (u : Value) (s' : Shared) : Prop :=
  ∃ (a : Addr) (g : Nat) (c : Code), u = .ref a ∧ sc.heap.objs.size ≤ a ∧ a < s'.heap.objs.size ∧ s'.heap.IsGen a g ∧ s'.gens[g]? = some (.fresh c) ∧ s'.os = sc.os ∧ AllBare s'.gens ∧ s'.heap.NoLimit ∧ (∀ b o, sc.heap.get? b = some o → s'.heap.get? b = some o) ∧ W [] H1 ∧
    ∀ (A : Around) (B : List Addr) (Cr : List V → Heap → Prop) (s2 : Shared), Room (k + 1) A → A.frames = some X.stack → Cons B Cr → (∀ b ∈ B, s'.heap.objs.size ≤ b) → (∀ b o, s'.heap.get? b = some o → s2.heap.get? b = some o) → Cr [] s2.heap → s2.os = sc.os → AllBare s2.gens →
      Seg (model X.prog X.w) A (RG X H1 sc ex B Cr Fin) (YG X H1 sc ex B Cr W Out a g) sizeLine s2 c ((model X.prog X.w).den c) [] s2

/-! ### the frame's own cells -/
theorem cellsFrom_app : ∀ (names : List (Str × NameKind)) (n : Nat) (acc : List (Str × Addr)), cellsFrom n names acc = cellsFrom n names [] ++ acc
  | [], _, _ => rfl
  | (x, k) :: r, n, acc => by
    unfold cellsFrom
    split
    · rw [cellsFrom_app r (n + 1) ((x, n) :: acc), cellsFrom_app r (n + 1) [(x, n)], List.append_assoc]
      rfl
    · exact cellsFrom_app r n acc
theorem cellsFrom_name : ∀ {names : List (Str × NameKind)} {n : Nat} {acc : List (Str × Addr)} {x : Str} {c : Addr}, (x, c) ∈ cellsFrom n names acc → (x, c) ∈ acc ∨ (x, NameKind.cell) ∈ names
  | [], _, _, _, _, h => .inl h
  | (y, k) :: r, n, acc, x, c, h => by
    unfold cellsFrom at h
    split at h
    · rename_i hk
      rcases cellsFrom_name h with z | z
      · rcases List.mem_cons.mp z with e | z
        · cases e
          exact .inr (by rw [show k = NameKind.cell by simpa using hk]; exact List.mem_cons_self)
        · exact .inl z
      · exact .inr (List.mem_cons_of_mem _ z)
    · rcases cellsFrom_name h with z | z
      · exact .inl z
      · exact .inr (List.mem_cons_of_mem _ z)
theorem nodup_val {α : Type} : ∀ {l : List (Str × α)} {x : Str} {a b : α}, (l.map (·.1)).Nodup → (x, a) ∈ l → (x, b) ∈ l → a = b
  | (y, v) :: r, x, a, b, h, h1, h2 => by
    obtain ⟨n1, n2⟩ := List.nodup_cons.mp h
    rcases List.mem_cons.mp h1 with e1 | e1 <;> rcases List.mem_cons.mp h2 with e2 | e2
    · cases e1; cases e2; rfl
    · cases e1
      exact absurd (List.mem_map.mpr ⟨_, e2, rfl⟩) n1
    · cases e2
      exact absurd (List.mem_map.mpr ⟨_, e1, rfl⟩) n1
    · exact nodup_val n2 e1 e2
section
variable {M : Model} {A : Around} {E : Value → Shared → Prop} {s : Shared}
theorem newEnvG {scope : Scope} {globals bi : Addr} {cl : List (Str × Addr)} {qual : Str} {code it : Value} {Q : Env → Shared → Prop} (hk : scope.kind = .function) (h0 : scope.names.lookup (".0" : Str) = some NameKind.local)
    (hQ : ∀ (h' : Heap) (tk : Nat), h'.Ns s.heap.objs.size (fun y => if y = ".0" then some it else none) → (∀ b o, s.heap.get? b = some o → h'.get? b = some o) → s.heap.objs.size < h'.objs.size →
      (∀ n c, (n, c) ∈ cellsFrom (s.heap.objs.size + 1) scope.names [] → h'.IsCell c none ∧ s.heap.objs.size + 1 ≤ c) → ((cellsFrom (s.heap.objs.size + 1) scope.names []).Pairwise fun x y => x.2 ≠ y.2) →
      Q (newEnv scope s.heap.objs.size globals (cellsFrom (s.heap.objs.size + 1) scope.names cl) qual none code none bi) { s with heap := h', toks := tk }) :
    wpAny M A (newFunctionEnv scope globals cl [(".0", it)] qual none code none bi) Q E s := by
  simp only [newFunctionEnv, Option.isSome_none, Bool.false_eq_true, if_false]
  refine wpAny_bind (wpAny_alloc ?_)
  refine wpAny_bind (wpAny_layCells _ (fun name kind cells => by cases hkc : kind == NameKind.cell <;> simp [hkc]) _ _ _ _ ?_)
  have hz : (s.heap.push { cls := .type "frame", data := .dict #[] }).objs.size = s.heap.objs.size + 1 := Heap.size_push ..
  have ok := cellsFrom_ok scope.names (s.heap.push { cls := .type "frame", data := .dict #[] }) (s.heap.objs.size + 1) [] ⟨fun _ _ hm => (nomatch hm), List.Pairwise.nil⟩ (by rw [hz]; exact Nat.le_refl _)
  rw [hz] at ok
  rw [show ({ s with heap := s.heap.push { cls := .type "frame", data := .dict #[] } } : Shared).heap.objs.size = s.heap.objs.size + 1 from hz]
  rw [List.forIn_cons]
  refine wpAny_bind (wpAny_bind (wpAny_bind ?_))
  have ns1 := (Heap.Ns.new s.heap (.type "frame")).keeps (pushCells_keeps scope.names (s.heap.push { cls := .type "frame", data := .dict #[] }))
  refine wpAny_storeName_local (env := newEnv scope s.heap.objs.size globals (cellsFrom (s.heap.objs.size + 1) scope.names cl) qual none code none bi) h0 ns1 (fun h' hn' hs' => ?_) (by show (scope.kind == .class || (scope.kind == .module && _)) = false; rw [hk]; rfl)
  refine wpAny_pure ?_
  dsimp only
  rw [List.forIn_nil]
  refine wpAny_pure (wpAny_pure (hQ h' _ ?_ (fun b o e => ?_) ?_ (fun n c hm => ?_) ok.apart))
  · have e : (fun y : Str => if y = (".0" : Str) then some it else (fun _ => none) y) = fun y : Str => if y = (".0" : Str) then some it else none := rfl
    exact hn'
  · exact hs'.extBut b o (Nat.ne_of_lt (Heap.lt_size e)) (pushCells_keeps _ _ b o (Heap.get?_push_of_some _ e))
  · exact hn'.lt
  · obtain ⟨o1, o2⟩ := ok.empty n c hm
    exact ⟨o1.sameBut hs' (Nat.ne_of_gt o2), o2⟩
theorem gxMake {env : Env} {elt target iter : Expr} {ifs : List Expr} {scope : Scope} {cl : List (Str × Addr)} {pos : Pos} {Q : Value → Shared → Prop}
    (hco : scope.isCoroutine = false) (hclos : closureFor scope env = pure cl) (h0 : scope.names.lookup (".0" : Str) = some NameKind.local) (hkind : scope.kind = .function) (hroom : A.depth < recursionLimit)
    (h : wpAny M A (eval iter env) (fun xv s₁ => wpAny M A (pyIter xv) (fun it s₂ => s₂.heap.NoLimit ∧
      wpAny M A (genexprCode env pos (env.qual ++ "<genexpr>") scope) (fun code s₃ => wpAny M A (builtinsFor env.globals env.builtins) (fun bi s₄ =>
        ∀ (h' : Heap) (tk : Nat), h'.Ns s₄.heap.objs.size (fun y => if y = ".0" then some it else none) → (∀ b o, s₄.heap.get? b = some o → h'.get? b = some o) → s₄.heap.objs.size < h'.objs.size →
          (∀ n c, (n, c) ∈ cellsFrom (s₄.heap.objs.size + 1) scope.names [] → h'.IsCell c none ∧ s₄.heap.objs.size + 1 ≤ c) → ((cellsFrom (s₄.heap.objs.size + 1) scope.names []).Pairwise fun x y => x.2 ≠ y.2) →
          Q (.ref h'.objs.size) { s₄ with
            gens := s₄.gens.push (.fresh (.compStart (.GeneratorExp elt [⟨target, iter, ifs, 0⟩] scope pos) 0 it .none (genEnv scope (cellsFrom (s₄.heap.objs.size + 1) scope.names cl) s₄.heap.objs.size code bi env))),
            toks := tk + 1 + 1,
            heap := h'.push { cls := .type "generator", data := .fields #[.int s₄.gens.size 0, .str "<genexpr>" tk, .str (env.qual ++ "<genexpr>") (tk + 1)] } }) E s₃) E s₂) E s₁) E s)
    (hs : ∀ x, genFold iter env x = pure x) :
    wpAny M A (eval (.GeneratorExp elt [⟨target, iter, ifs, 0⟩] scope pos) env) Q E s := by
  rw [eval_GeneratorExp1 _ _ _ _ _ _ _ hco, hclos]
  refine wpAny_bind (wpAny_mono h (fun xv s₁ h₁ => wpAny_bind (wpAny_standAt (wpAny_bind (wpAny_of_eq (hs xv) ?_)))) fun _ _ e => e)
  refine wpAny_bind (wpAny_holding (wpAny_mono h₁ (fun it s₂ h₂ => wpAny_bind (wpAny_enterFrame h₂.1 hroom (wpAny_bind (wpAny_pure ?_)))) fun _ _ e => e))
  refine wpAny_bind (wpAny_mono h₂.2 (fun code s₃ h₃ => wpAny_bind (wpAny_mono h₃ (fun bi s₄ h₄ => ?_) fun _ _ e => e)) fun _ _ e => e)
  refine wpAny_bind (newEnvG hkind h0 fun h' tk a1 a2 a3 a4 a5 => ?_)
  simp only [newGenerator, newFields]
  refine wpAny_bind (wpAny_newGen (wpAny_bind (wpAny_mkText (wpAny_bind (wpAny_mkText (wpAny_newObj_type ?_ (by size_fits)))))))
  exact h₄ h' tk a1 a2 a3 a4 a5
end

section
variable {X : Cx} {pins : List (Addr × Obj)} {σ : L2.St} {H : Hp} {s : Shared}
/-- the cells of the frame: those of the def around, then its own -/
abbrev gcl (X : Cx) (scope : Scope) (C : Addr) : List (Str × Addr) := cellsFrom (C + 1) scope.names (cloFrom X.env.cells scope.names [])
theorem gcl_mem {scope : Scope} {C : Addr} {x : Str} {c : Addr} (hfre : ∀ y ∈ scope.names, y.2 = .free → X.env.scope.names.lookup y.1 = some .cell) (I : Inv X pins σ H s) (e : (gcl X scope C).lookup x = some c) :
    ((x, NameKind.free) ∈ scope.names ∧ X.env.cells.lookup x = some c) ∨ ((x, NameKind.cell) ∈ scope.names ∧ (x, c) ∈ cellsFrom (C + 1) scope.names []) := by
  have hm := PySem.mem_of_lookup e
  rw [gcl, cellsFrom_app] at hm
  rcases List.mem_append.mp hm with z | z
  · rcases cellsFrom_name z with y | y
    · cases y
    · exact .inr ⟨y, z⟩
  · rcases cloFrom_mem z with y | ⟨y1, y2⟩
    · cases y
    · obtain ⟨c', hc'⟩ := I.ok.has x (.inl (hfre _ y1 rfl))
      rw [hc'] at y2
      exact .inl ⟨y1, by rw [hc', show c = c' from y2]⟩
theorem gcl_has {scope : Scope} {C : Addr} {x : Str} (h : scope.names.lookup x = some .free ∨ scope.names.lookup x = some .cell) : ∃ c, (gcl X scope C).lookup x = some c := by
  rcases h with h | h
  · exact mem_lookup (cells_acc (cloFrom_has (PySem.mem_of_lookup h)))
  · obtain ⟨c, hc⟩ := cells_has (n := C + 1) (acc := cloFrom X.env.cells scope.names []) (PySem.mem_of_lookup h)
    exact mem_lookup hc
/-- the frame of the element at its beginning -/
theorem inv_gx {N : List Str} {js : List (Option Nat)} {scope : Scope} {A : Around} {C bi : Addr} {code : Value} {fp B : List Addr} {a : Addr} {go : Obj} {s2 : Shared} {m : Str → Option Value} (ok : GxOk X.N X.env.scope N js scope) (I : Inv X pins σ H s) (hfr : A.frames = some X.stack) (hh : A.handled = none)
    (hC : s.heap.objs.size ≤ C) (hbi : bi = builtinsNs) (hfp : ∀ b ∈ fp, FpOk X pins H b ∧ b < s.heap.objs.size) (hk : ∀ b o, s.heap.get? b = some o → s2.heap.get? b = some o) (hns : s2.heap.Ns C m) (hos : s2.os = s.os) (hb : AllBare s2.gens)
    (hcel : ∀ n c, (n, c) ∈ cellsFrom (C + 1) scope.names [] → s2.heap.IsCell c none ∧ C + 1 ≤ c) (hapt : (cellsFrom (C + 1) scope.names []).Pairwise fun x y => x.2 ≠ y.2)
    (haC : a ≠ C) (ha : s.heap.objs.size ≤ a) (hga : s2.heap.get? a = some go) (hgd : ∀ v, go.data ≠ .cell v) (hB : ∀ b ∈ B, s.heap.objs.size ≤ b ∧ b ≠ C ∧ ∃ o, s2.heap.get? b = some o ∧ ∀ v, o.data ≠ .cell v) :
    Inv (gxc X N (genEnv scope (gcl X scope C) C code bi X.env) A s H fp [(a, go)]) (pinsOf B s2.heap) (capt σ js) H s2 := by
  have cases_ : ∀ x c, (gcl X scope C).lookup x = some c → ((x, NameKind.free) ∈ scope.names ∧ X.env.cells.lookup x = some c) ∨ ((x, NameKind.cell) ∈ scope.names ∧ (x, c) ∈ cellsFrom (C + 1) scope.names []) := fun x c e => gcl_mem ok.fre I e
  have clt : ∀ x c, X.env.cells.lookup x = some c → c < s.heap.objs.size := fun x c e => by
    obtain ⟨v, o, ho, _⟩ := I.cell x c e
    exact Heap.lt_size ho
  have yng : ∀ b, s.heap.objs.size ≤ b → b ∉ frs X.stack := fun b hb z => by
    rcases List.mem_cons.mp (I.stkSub b z) with z | z
    · rw [z] at hb
      exact absurd (Nat.lt_of_lt_of_le I.lt hb) (Nat.lt_irrefl _)
    · exact I.nofs hb z
  have okX : (gxc X N (genEnv scope (gcl X scope C) C code bi X.env) A s H fp [(a, go)]).Ok := by
    refine ⟨I.ok.mod, ok.kind, I.ok.glob, hbi, hC, fun x y c h1 h2 => ?_, fun x hx => ?_, fun x c hf e => ?_, fun _ => hh, Around.frames_deeper hfr, .inr ⟨rfl, rfl⟩, fun b hb => ⟨?_, fun x c e => ?_⟩, I.bs, Nat.le_trans I.ok.bsz I.sz, fun b o e hb => ?_, fun b hb hb2 => ?_, I.stack, I.stkFree⟩
    · rcases cases_ x c h1 with ⟨_, z1⟩ | ⟨_, z1⟩ <;> rcases cases_ y c h2 with ⟨_, z2⟩ | ⟨_, z2⟩
      · exact I.ok.inj x y c z1 z2
      · have q1 := clt x c z1
        have q2 := (hcel _ _ z2).2
        exact absurd (Nat.lt_of_lt_of_le q1 hC) (Nat.not_lt_of_le (Nat.le_of_succ_le q2))
      · have q1 := clt y c z2
        have q2 := (hcel _ _ z1).2
        exact absurd (Nat.lt_of_lt_of_le q1 hC) (Nat.not_lt_of_le (Nat.le_of_succ_le q2))
      · exact name_of_addr hapt z1 z2
    · rcases hx with hx | hx
      · exact gcl_has (.inr hx)
      · exact gcl_has (.inl hx)
    · have hf' : (scope.names.lookup x == some NameKind.cell) = true := hf
      have hf2 : scope.names.lookup x = some NameKind.cell := by simpa using hf'
      rcases cases_ x c e with ⟨z, _⟩ | ⟨_, z⟩
      · have q1 := nodup_val ok.nodup z (PySem.mem_of_lookup hf2)
        cases q1
      · exact Nat.le_trans hC (Nat.le_of_succ_le (hcel _ _ z).2)
    · exact Nat.ne_of_lt (Nat.lt_of_lt_of_le (hfp b hb).2 hC)
    · rcases cases_ x c e with ⟨_, z⟩ | ⟨_, z⟩
      · exact (hfp b hb).1.2.2.2.2.1 x c z
      · exact Nat.ne_of_gt (Nat.lt_of_lt_of_le (hfp b hb).2 (Nat.le_trans hC (Nat.le_of_succ_le (hcel _ _ z).2)))
    · obtain ⟨⟨_, f1, f2, f3, _, _⟩, _⟩ := hfp b hb
      rcases f3 with z | z
      · exact I.ok.noex b o e z
      · have q := Heap.lt_size (I.ok.bs b o e).1
        exact absurd (Nat.lt_of_lt_of_le q z) (Nat.lt_irrefl _)
    · obtain ⟨⟨_, f1, f2, _, _, _⟩, _⟩ := hfp b hb
      rcases List.mem_cons.mp (I.stkSub b hb2) with z | z
      · exact f1 z
      · exact f2 z
  refine ⟨okX, hos, hb, Un.kept hk, ⟨m, hns, fun i x v e1 e2 e3 => ?_⟩, fun x c e => ?_, I.hok.fresh hC, fun x c e => ?_, fun p hp => ?_, I.hok.kept hk, ?_⟩
  · unfold capt at e2
    rw [List.getElem?_map] at e2
    cases hj : js[i]? with
    | none => rw [hj] at e2; cases e2
    | some o =>
      rw [hj] at e2
      cases o with
      | none => cases e2
      | some j =>
        obtain ⟨y, n1, n2, n3, n4⟩ := ok.cap i j hj
        have ey : y = x := Option.some.inj (n1.symm.trans e1)
        subst ey
        have e4 : (σ[j]?).join = some v := Option.some.inj e2
        have e5 : σ[j]? = some (some v) := by
          cases hs : σ[j]? with
          | none => rw [hs] at e4; cases e4
          | some w => rw [hs] at e4; cases e4; rfl
        obtain ⟨m0, _, hl⟩ := I.loc
        obtain ⟨u, ru, lk⟩ := hl j y v n2 e5 (.inr (.inl n4))
        refine ⟨u, ru, .inr ⟨.inr n3, ?_⟩⟩
        obtain ⟨c, hc⟩ := gcl_has (X := X) (C := C) (.inl n3)
        have hcx : X.env.cells.lookup y = some c := by
          rcases cases_ y c hc with ⟨_, z⟩ | ⟨z, _⟩
          · exact z
          · have q1 := nodup_val ok.nodup z (PySem.mem_of_lookup n3)
            cases q1
        rcases lk with ⟨q, _⟩ | ⟨_, c', hc', hcell⟩
        · have q' : X.env.scope.names.lookup y = some .local := q
          rw [n4] at q'
          cases q'
        · have ec : c = c' := Option.some.inj (hcx.symm.trans hc')
          obtain ⟨o, ho, hd⟩ := hcell
          exact ⟨c, hc, o, hk _ _ (by rw [ec]; exact ho), hd⟩
  · rcases cases_ x c e with ⟨_, z⟩ | ⟨_, z⟩
    · obtain ⟨v, o, ho, hd⟩ := I.cell x c z
      exact ⟨v, o, hk _ _ ho, hd⟩
    · exact ⟨none, (hcel _ _ z).1⟩
  · rcases cases_ x c e with ⟨_, z⟩ | ⟨_, z⟩
    · exact I.freeC x c z
    · exact I.hok.fresh (Nat.le_trans hC (Nat.le_of_succ_le (hcel _ _ z).2))
  · rcases List.mem_append.mp hp with z | z
    · rw [List.mem_singleton.mp z]
      exact ⟨hga, I.hok.fresh ha, haC, yng a ha, hgd⟩
    · obtain ⟨z1, z2⟩ := mem_pinsOf z
      obtain ⟨b1, b2, o, b3, b4⟩ := hB p.1 z1
      rw [b3] at z2
      cases z2
      exact ⟨b3, I.hok.fresh b1, b2, yng _ b1, b4⟩
  · show (capt σ js).length = N.length
    unfold capt
    rw [List.length_map, ok.len]

/-- from the start -/
theorem gstart {scope : Scope} {C bi : Addr} {cl : List (Str × Addr)} {code : Value} {A : Around} {sc : Shared} {H1 : Hp} {fp B : List Addr} {a : Addr} {gn : Nat}
    {elt tg iter : Expr} {pos : Pos} {J : It} {it : Addr} {tn : Nat → Heap → Prop} {W Fin : List V → Hp → Prop} {Out : List V → V → Hp → Prop} {Cr : List V → Heap → Prop} {s₀ s2 : Shared}
    (T : Turn X.prog X.w X.K tg J fp it tn) (ht : tn 0 s2.heap)
    (loop : Seg (model X.prog X.w) A (RG X H1 sc fp B Cr Fin) (YG X H1 sc fp B Cr W Out a gn) sizeLine s₀ (.compLoop (.GeneratorExp elt [⟨tg, iter, [], 0⟩] scope pos) 0 (.ref it) .none (genEnv scope cl C code bi X.env))
        ((model X.prog X.w).den (.compLoop (.GeneratorExp elt [⟨tg, iter, [], 0⟩] scope pos) 0 (.ref it) .none (genEnv scope cl C code bi X.env))) [] s2) :
    Seg (model X.prog X.w) A (RG X H1 sc fp B Cr Fin) (YG X H1 sc fp B Cr W Out a gn) sizeLine s₀ (.compStart (.GeneratorExp elt [⟨tg, iter, [], 0⟩] scope pos) 0 (.ref it) .none (genEnv scope cl C code bi X.env))
        ((model X.prog X.w).den (.compStart (.GeneratorExp elt [⟨tg, iter, [], 0⟩] scope pos) 0 (.ref it) .none (genEnv scope cl C code bi X.env))) [] s2 := by
  show Seg _ A _ _ _ s₀ _ ((compStart (.GeneratorExp elt [⟨tg, iter, [], 0⟩] scope pos) 0 (.ref it) .none (genEnv scope cl C code bi X.env)).onRaise (leaving _)) [] s2
  unfold compStart
  rw [Sem.onRaise_eq_wrap]
  show Seg _ A _ _ _ s₀ _ ((ask >>= _).wrap _ _ _ _) [] s2
  refine seg_bind_wrap (wpAny_askSetting ?_)
  split
  · exact seg_again rfl loop
  · refine seg_bind_wrap (wpAny_rule ?_)
    show Seg _ A _ _ _ s₀ _ ((standAt iter.pos >>= _).wrap _ _ _ _) [] s2
    exact seg_bind_wrap (wpAny_standAt (seg_bind_wrap (T.self _ 0 s2 _ _ ht (seg_again rfl loop))))

theorem gx_eval {k : Nat} {c P : Addr} {N : List Str} {js : List (Option Nat)} {scope : Scope} {elt tg iter : Expr} {gpos : Pos} {wi : TI} {g : TG} {te : TE} {Q' : Value → Shared → Prop} {Rc : Hp → (List V → Hp → Prop) → (List V → Hp → Prop) → (List V → V → Hp → Prop) → Prop}
    (hr : Room (k + 1) X.A) (TB : TabB X.base X.mg c P) (hcode : X.env.code = .ref c) (ok : GxOk X.N X.env.scope N js scope) (hi : PI X tg iter wi) (hs : ∀ v, genFold iter X.env v = pure v)
    (hg : ∀ A C code bi cl sc H fp pn, Room k (A.deeper (genEnv scope cl C code bi X.env)) → PG (gxc X N (genEnv scope cl C code bi X.env) A sc H fp pn) tg g)
    (he : ∀ A C code bi cl sc H fp pn, Room k (A.deeper (genEnv scope cl C code bi X.env)) → PE (gxc X N (genEnv scope cl C code bi X.env) A sc H fp pn) elt te)
    (I : Inv X pins σ H s) (h : wi σ H fun J H1 => TabG H1 P ∧ ∀ H2, Tabbed P H1 H2 → ∃ W Fin Out, W [] H2 ∧ GStep J g te (capt σ js) W Fin Out ∧ Rc H2 W Fin Out)
    (hQ : ∀ H2 sc fp W Fin Out u s', Inv X pins σ H2 sc → ExOk X pins fp → Rc H2 W Fin Out → GM X k H2 sc fp W Fin Out u s' → Q' u s') :
    wpAny (model X.prog X.w) X.A (eval (.GeneratorExp elt [⟨tg, iter, [], 0⟩] scope gpos) X.env) Q' X.xe s := by
  refine gxMake ok.co (closure_ok fun y hy e => I.ok.has y.1 (.inl (ok.fre y hy e))) ok.dot ok.kind (by have := hr.dp; omega) ?_ hs
  refine thn (hi.run pins s σ H _ I h) fun xv s1 h1 => thn h1 fun itv s2 h2 => ?_
  obtain ⟨it, fp, tn, J, H1, rfl, I2, T, ht, hF, ⟨ps, hP, htr⟩, hR⟩ := h2
  refine ⟨I2.nolimit, ?_⟩
  have hPs : s2.heap.get? P = some { cls := .none, data := .fields ps } := I2.hok P _ hP
  have hcP : cStatics ≠ P := fun e => by
    obtain ⟨_, hns, _⟩ := I2.nolimit
    obtain ⟨o', es, ep, ho, hd, _⟩ := hns
    rw [e, hPs] at ho
    cases ho
    cases hd
  have cd : PySem.W.CodeHd s2.heap c P := TB.code.keeps fun b u e => I2.bk b u e
  have objF := T.obj _ _ ht
  have fpne : ∀ b ∈ fp, b ≠ P := fun b hb z => by
    have q := (hF b hb).1
    rw [z, hP] at q
    cases q
  have cont : ∀ (code : Value) (h3 : Heap) (tk : Nat) (more : Array Value), Heap.ExtBut P s2.heap h3 → h3.get? P = some { cls := .none, data := .fields (ps ++ more) } → TriplesOk (ps ++ more).toList →
      wpAny (model X.prog X.w) X.A (builtinsFor X.env.globals X.env.builtins) (fun bi s₄ =>
        ∀ (h' : Heap) (tk : Nat), h'.Ns s₄.heap.objs.size (fun y => if y = ".0" then some (Value.ref it) else none) → (∀ b o, s₄.heap.get? b = some o → h'.get? b = some o) → s₄.heap.objs.size < h'.objs.size →
          (∀ n c, (n, c) ∈ cellsFrom (s₄.heap.objs.size + 1) scope.names [] → h'.IsCell c none ∧ s₄.heap.objs.size + 1 ≤ c) → ((cellsFrom (s₄.heap.objs.size + 1) scope.names []).Pairwise fun x y => x.2 ≠ y.2) →
          Q' (.ref h'.objs.size) { s₄ with
            gens := s₄.gens.push (.fresh (.compStart (.GeneratorExp elt [⟨tg, iter, [], 0⟩] scope gpos) 0 (.ref it) .none (genEnv scope (gcl X scope s₄.heap.objs.size) s₄.heap.objs.size code bi X.env))),
            toks := tk + 1 + 1,
            heap := h'.push { cls := .type "generator", data := .fields #[.int s₄.gens.size 0, .str "<genexpr>" tk, .str (X.env.qual ++ "<genexpr>") (tk + 1)] } }) X.xe { s2 with heap := h3, toks := tk } := by
    intro code h3 tk more hx hP3 htr3
    obtain ⟨bm, ob, e1, e2, e3, e4, e5, e6, e7, e8⟩ := TB.bm
    have keep3 : ∀ b u, b ≠ P → s2.heap.get? b = some u → h3.get? b = some u := fun b u hb e => hx b u hb e
    have J3 : Inv X pins σ (upd H1 P (.tbl (ps ++ more))) { s2 with heap := h3, gens := s2.gens, drawn := s2.drawn, toks := tk } := GxR.inv_tab (more := more) (g' := s2.gens) (d' := s2.drawn) (t' := tk) I2 hP keep3 hP3 I2.bare
    refine wpAny_builtinsFor (m := X.mg) (by rw [I2.ok.glob]; exact (I2.mod.glob.keeps I2.bk).extBut hx TB.gP) e1 e2 (keep3 _ _ e4 (I2.bk _ _ e5)) e6 e7 e8 ?_
    intro h' tg' hn' keep' hlt' hcel hapt
    obtain ⟨W, Fin, Out, w0, step, rc⟩ := hR (upd H1 P (.tbl (ps ++ more))) ⟨⟨ps ++ more, upd_same, htr3⟩, fun b hb => upd_ne hb⟩
    have hsz : h3.objs.size < h'.objs.size := hlt'
    have ht3 : tn 0 h3 := T.keep _ _ _ ht fun b hb o e => keep3 b o (fpne b hb) e
    have hF3 : ∀ b ∈ fp, FpOk X pins (upd H1 P (.tbl (ps ++ more))) b ∧ b < h3.objs.size := fun b hb => by
      obtain ⟨f0, f1, f2, f3, f4, f5⟩ := hF b hb
      obtain ⟨o, ho, _⟩ := objF b hb
      exact ⟨⟨by rw [upd_ne (fpne b hb)]; exact f0, f1, f2, f3, f4, f5⟩, Heap.lt_size (keep3 b o (fpne b hb) ho)⟩
    have hexok : ExOk X pins fp := fun b hb => by
      obtain ⟨f0, f1, f2, f3, f4, f5⟩ := hF b hb
      exact ⟨f3, f1, f4, f5⟩
    refine hQ _ { s2 with heap := h3, toks := tk } fp W Fin Out _ _ J3 hexok rc ?_
    have hgen : ∀ h : Heap, h.get? h'.objs.size = some { cls := .type "generator", data := .fields #[.int s2.gens.size 0, .str "<genexpr>" tg', .str (X.env.qual ++ "<genexpr>") (tg' + 1)] } → h.IsGen h'.objs.size s2.gens.size := fun h e => ⟨_, _, _, e, rfl, rfl, rfl⟩
    have keep5 : ∀ b o, h3.get? b = some o → (h'.push { cls := .type "generator", data := .fields #[.int s2.gens.size 0, .str "<genexpr>" tg', .str (X.env.qual ++ "<genexpr>") (tg' + 1)] }).get? b = some o := fun b o e => Heap.get?_push_of_some _ (keep' b o e)
    refine ⟨h'.objs.size, s2.gens.size, _, rfl, ?_, ?_, hgen _ (Heap.get?_push_size _ rfl), Array.getElem?_push_size .., rfl, AllBare.push I2.bare rfl, J3.nolimit.keeps keep5, keep5, w0, ?_⟩
    · show h3.objs.size ≤ h'.objs.size
      omega
    · show h'.objs.size < (h'.push _).objs.size
      rw [Heap.size_push]
      exact Nat.lt_succ_self _
    intro A B Cr s5 hrA hfA CB hBs hk5 hC0 ho5 hb5
    have hBs' : ∀ b ∈ B, h'.objs.size + 1 ≤ b := fun b hb => by
      have q : (h'.push _).objs.size ≤ b := hBs b hb
      rw [Heap.size_push] at q
      exact q
    have k35 : ∀ b o, h3.get? b = some o → s5.heap.get? b = some o := fun b o e => hk5 b o (keep5 b o e)
    have hrd := hrA.deeper (genEnv scope (gcl X scope h3.objs.size) h3.objs.size code builtinsNs X.env)
    have I5 : Inv (gxc X N (genEnv scope (gcl X scope h3.objs.size) h3.objs.size code builtinsNs X.env) A { s2 with heap := h3, toks := tk } (upd H1 P (.tbl (ps ++ more))) fp [(h'.objs.size, { cls := .type "generator", data := .fields #[.int s2.gens.size 0, .str "<genexpr>" tg', .str (X.env.qual ++ "<genexpr>") (tg' + 1)] })])
        (pinsOf B s5.heap) (capt σ js) (upd H1 P (.tbl (ps ++ more))) s5 := by
      refine inv_gx ok J3 hfA hrA.hd (Nat.le_refl _) rfl hF3 k35 ((hn'.push _).keeps hk5) ho5 hb5 (fun n c hm => ⟨(hcel n c hm).1.keeps fun b o e => hk5 b o (Heap.get?_push_of_some _ e), (hcel n c hm).2⟩) hapt ?_ ?_ (hk5 _ _ (Heap.get?_push_size _ rfl)) (fun v q => by cases q) fun b hb => ⟨?_, ?_, CB.obj _ _ hC0 b hb⟩
      · show h'.objs.size ≠ h3.objs.size
        omega
      · show h3.objs.size ≤ h'.objs.size
        omega
      · show h3.objs.size ≤ b
        have := hBs' b hb
        omega
      · have q1 := hBs' b hb
        exact Nat.ne_of_gt (show h3.objs.size < b by omega)
    have clt : ∀ x c, (gcl X scope h3.objs.size).lookup x = some c → c < h'.objs.size := fun x c e => by
      rcases gcl_mem ok.fre J3 e with ⟨_, z⟩ | ⟨_, z⟩
      · obtain ⟨v, o, ho, _⟩ := J3.cell x c z
        exact Nat.lt_trans (Heap.lt_size ho) hsz
      · exact (hcel _ _ z).1.lt
    refine gstart T (T.keep _ _ _ ht3 fun b hb o e => k35 b o e) (gloop ok.co (fun h e => hgen h e) T CB (fun b hb => ?_) (hg A _ _ _ _ _ _ _ _ hrd) (he A _ _ _ _ _ _ _ _ hrd) step sizeLine [] s5 s5 _ (by simp) w0 hC0 I5 (fun b hb => ?_) (T.keep _ _ _ ht3 fun b hb o e => k35 b o e))
    · have hb1 := hBs' b hb
      refine ⟨?_, ?_, ?_, fun x c e => ?_, fun z => ?_⟩
      · show h3.objs.size ≤ b
        omega
      · exact Nat.ne_of_gt (show h3.objs.size < b by omega)
      · exact Nat.ne_of_gt (show h'.objs.size < b by omega)
      · have q1 := clt x c e
        exact Nat.ne_of_lt (show c < b from Nat.lt_of_lt_of_le q1 (by omega))
      · have q1 := (hF3 b z).2
        exact absurd (show h3.objs.size < b by omega) (Nat.not_lt_of_le (Nat.le_of_lt q1))
    · obtain ⟨⟨f0, f1, f2, f3, f4, f5⟩, fl⟩ := hF3 b hb
      refine ⟨f0, Nat.ne_of_lt fl, fun z => ?_, .inl hb, fun x c e => ?_, fun p hp => ?_⟩
      · rcases List.mem_cons.mp (J3.stkSub b z) with z | z
        · exact f1 z
        · exact f2 z
      · rcases gcl_mem ok.fre J3 e with ⟨_, z⟩ | ⟨_, z⟩
        · exact f4 x c z
        · exact Nat.ne_of_gt (Nat.lt_of_lt_of_le fl (Nat.le_of_succ_le (hcel _ _ z).2))
      · rcases List.mem_append.mp hp with z | z
        · rw [List.mem_singleton.mp z]
          exact Nat.ne_of_gt (show b < h'.objs.size from Nat.lt_of_lt_of_le fl (by omega))
        · have q1 := hBs' p.1 (mem_pinsOf z).1
          exact Nat.ne_of_gt (show b < p.1 from Nat.lt_of_lt_of_le fl (by omega))
  cases hf : codeAmong gpos ps.toList with
  | none =>
    refine wpAny_genexprCodeX hcode (cd.code hPs htr) (cd.tab hPs) hf fun c' h' tk hx hge hlt hco' _ htab' _ => ?_
    obtain ⟨o1, vs, f1, tf, fl, tg1, inF, tx, tt, op, _, _, _, _, _, _, _, _, _, htr', _⟩ := hco'
    exact cont _ h' tk _ hx htab'.2 htr'
  | some cv =>
    refine wpAny_genexprCode_hit hcode (cd.code hPs htr) hf ?_
    have e0 : ps ++ #[] = ps := by simp
    exact cont cv s2.heap s2.toks #[] (Heap.ExtBut.refl _ _) (by rw [e0]; exact hPs) (by rw [e0]; exact htr)
end
end BT

namespace BT
open PySem PySem.Spec PyProof.Rows L2 GenW

/-- the list that tuple(..) fills -/
def CrS (S : Addr) (ys : List V) (h : Heap) : Prop := ∃ (acc : Array Value) (c : Nat), h.get? S = some (lstObj acc c) ∧ Vals ys acc.toList
theorem consS (S : Addr) : Cons [S] (CrS S) where
  obj := fun ys h hc b hb => by
    obtain ⟨acc, c, e, _⟩ := hc
    rw [List.mem_singleton.mp hb]
    exact ⟨_, e, fun v q => by cases q⟩
  keep := fun ys h h' hc k => by
    obtain ⟨acc, c, e, r⟩ := hc
    exact ⟨acc, c, k S (List.mem_singleton.mpr rfl) _ e, r⟩

section
variable {X : Cx} {H1 : Hp} {sc : Shared} {fp : List Addr} {W Fin : List V → Hp → Prop} {Out : List V → V → Hp → Prop}
theorem drainT {A : Around} {R : Result → Shared → Prop} {S a : Addr} {g : Nat} {res : Value} (hh : A.handled = none) (hd : A.depth < recursionLimit) (hSa : S ≠ a) (hSc : S ≠ cStatics) (hO : ∀ ys y H, Out ys y H → W (ys ++ [y]) H)
    (hend : ∀ s' acc c H' ys, s'.heap.get? S = some (lstObj acc c) → Vals ys acc.toList → ys.length ≤ sizeLine → Abs X H1 sc fp [S] H' s' → Fin ys H' → R (.ok (.ret res)) s') :
    ∀ (m : Nat) (s : Shared), s.heap.IsGen a g → s.heap.NoLimit → (∃ gs, s.gens[g]? = some gs ∧ gs.Goes (model X.prog X.w) A.in1.in1 (RG X H1 sc fp [S] (CrS S) Fin) (YG X H1 sc fp [S] (CrS S) W Out a g) m (.send .none) (s.setGen g .running)) →
      codeAny (model X.prog X.w) A (.builtin "list.extend.loop" ⟨[.ref S, .ref a, res], []⟩) R s := by
  have fin : ∀ (s₁ : Shared) (n : Nat) (s0 : Shared), (∃ (ys : List V) (H : Hp), ys.length ≤ sizeLine ∧ Fin ys H ∧ CrS S ys s₁.heap ∧ Abs X H1 sc fp [S] H s₁) → ∀ h' : Heap, (∀ b o, s₁.heap.get? b = some o → h'.get? b = some o) → R (.ok (.ret res)) { s₁.setGen g .finished with heap := h' } := fun s₁ n s0 hp h' hk => by
    obtain ⟨ys, H', hl, hf, ⟨acc, c, e, r⟩, q1, q2, q3, q4, q5⟩ := hp
    exact hend _ acc c H' ys (hk _ _ e) r hl ⟨q1, allBare_setGen q2 rfl, q3.trans (Un.kept hk), q4.kept hk, q5⟩ hf
  intro m
  induction m with
  | zero =>
    intro s hg hl ⟨gs, hgs, hgo⟩
    refine codeAny_builtin F.entry_extend_loop ?_
    rw [Around.under_plainId F.plain_extend_loop _]
    show wpAny _ A.in1 (pyNext (.ref a) >>= _) _ _ s
    refine wpAny_bind (wpAny_pyNext_genexpQ (A := A.in1) (P := fun n s₀ s₁ => ∃ (ys : List V) (H : Hp), ys.length ≤ sizeLine ∧ Fin ys H ∧ CrS S ys s₁.heap ∧ Abs X H1 sc fp [S] H s₁) hh hl hd hg hgs hgo (fun v s₁ gs' hb hv => ?_) fun s₁ hp h' hk => ?_)
    · obtain ⟨ys, y, H', hn, rv, ho, ⟨acc, c, e, r⟩, ⟨q1, q2, _⟩, _, _, hk⟩ := hv
      have z := hk { s₁.setGen g gs' with heap := s₁.heap.update S (Obj.mapSeq (·.push v)) } (hO _ _ _ ho) ⟨acc.push v, _, Heap.get?_update_self _ e rfl, by rw [Array.toList_push]; exact r.append (.cons rv .nil)⟩ q1 (allBare_setGen q2 hb)
        fun b o hb e' => (Heap.get?_update_other _ _ (fun z => hb (List.mem_singleton.mpr z.symm))).trans e'
      exact z.elim
    · exact wpAny_pure (fin s₁ 0 s hp h' hk)
  | succ m ih =>
    intro s hg hl ⟨gs, hgs, hgo⟩
    have hgl : g < s.gens.size := (Array.getElem?_eq_some_iff.mp hgs).1
    refine codeAny_builtin F.entry_extend_loop ?_
    rw [Around.under_plainId F.plain_extend_loop _]
    show wpAny _ A.in1 (pyNext (.ref a) >>= _) _ _ s
    refine wpAny_bind (wpAny_gsz (n := g + 1) hgl (wpAny_pyNext_genexpQ (A := A.in1) (P := fun n s₀ s₁ => ∃ (ys : List V) (H : Hp), ys.length ≤ sizeLine ∧ Fin ys H ∧ CrS S ys s₁.heap ∧ Abs X H1 sc fp [S] H s₁) hh hl hd hg hgs hgo (fun v s₁ gs' hb hv => ?_) fun s₁ hp h' hk => ?_))
    · intro hsz
      obtain ⟨ys, y, H', hn, rv, ho, ⟨acc, c, e, r⟩, ⟨q1, q2, _⟩, hl1, hg1, hk⟩ := hv
      have hasz : acc.size = ys.length := by
        have z1 := r.length
        have z2 : acc.toList.length = acc.size := by simp
        omega
      show wpAny _ A.in1 (updateSeq S (·.push v) >>= _) _ _ _
      refine wpAny_bind ?_
      refine wpAny_updateSeq e rfl (wpAny_pure ⟨plainId_quiet F.plain_extend_loop _, ?_⟩) (by omega) (by show (acc.push v).size ≤ sizeLine + 1; rw [Array.size_push]; omega)
      have keep3 : ∀ b o, b ≠ S → s₁.heap.get? b = some o → (s₁.heap.update S (Obj.mapSeq (·.push v))).get? b = some o := fun b o hbS e => (Heap.get?_update_other _ _ (Ne.symm hbS)).trans e
      have hsz1 : g < s₁.gens.size := by
        have q : (s₁.setGen g gs').gens.size = s₁.gens.size := setGen_size _ _ _
        have hsz' : g + 1 ≤ (s₁.setGen g gs').gens.size := hsz
        omega
      refine ih { s₁.setGen g gs' with heap := s₁.heap.update S (Obj.mapSeq (·.push v)) } ?_ ?_ ⟨gs', setGen_at hsz1, ?_⟩
      · obtain ⟨o, nm, qn, ho, r⟩ := hg1
        exact ⟨o, nm, qn, keep3 a o (Ne.symm hSa) ho, r⟩
      · obtain ⟨mc, hns, hnn⟩ := hl1
        exact ⟨mc, hns.at' fun o e => keep3 _ o (Ne.symm hSc) e, hnn⟩
      · refine hk { ({ s₁.setGen g gs' with heap := s₁.heap.update S (Obj.mapSeq (·.push v)) } : Shared).setGen g .running with heap := s₁.heap.update S (Obj.mapSeq (·.push v)) } (hO _ _ _ ho) ⟨acc.push v, _, Heap.get?_update_self _ e rfl, ?_⟩ q1 (allBare_setGen (s := s₁.setGen g gs') (allBare_setGen q2 hb) rfl) fun b o hb e' => keep3 b o (fun z => hb (List.mem_singleton.mpr z)) e'
        rw [Array.toList_push]
        exact r.append (.cons rv .nil)
    · intro _
      exact wpAny_pure (fin s₁ 0 s hp h' hk)

theorem collectG {k : Nat} {A : Around} {u : Value} {s : Shared} {Q : List Value → Shared → Prop} {E : Value → Shared → Prop} (hr : Room (k + 4) A) (hfr : A.frames = some X.stack) (h : GM X k H1 sc fp W Fin Out u s) (hO : ∀ ys y H, Out ys y H → W (ys ++ [y]) H)
    (hQ : ∀ S s' acc H' ys, s.heap.objs.size ≤ S → Vals ys acc → ys.length ≤ sizeLine → Abs X H1 sc fp [S] H' s' → Fin ys H' → Q acc s') : wpAny (model X.prog X.w) A (collect u) Q E s := by
  obtain ⟨a, g, c, rfl, ha1, ha2, hg, hgs, hos, hb, hl, hkp, w0, wake⟩ := h
  have hSa : s.heap.objs.size ≠ a := Nat.ne_of_gt ha2
  have hcl : cStatics < s.heap.objs.size := let ⟨_, hn, _⟩ := hl; hn.lt
  have hSc : s.heap.objs.size ≠ cStatics := Nat.ne_of_gt hcl
  unfold collect
  refine wpAny_bind (wpAny_runValue (codeAny_builtin F.entry_proto_collect ?_))
  rw [Around.under_plainId F.plain_proto_collect _]
  show wpAny _ A.in1 (newList [] >>= fun l => again (.builtin "list.__iadd__" ⟨[l, .ref a], []⟩)) _ _ s
  refine wpAny_bind (wpAny_newObj_type ?_)
  refine wpAny_pure ⟨plainId_quiet F.plain_list_iadd _, codeAny_builtin F.entry_list_iadd ?_⟩
  rw [Around.under_plainId F.plain_list_iadd _]
  have up : ∀ (h : Heap) (f : Obj → Obj), (∀ b o, s.heap.get? b = some o → h.get? b = some o) → ∀ b o, s.heap.get? b = some o → (h.update s.heap.objs.size f).get? b = some o := fun h f q b o e =>
    (Heap.get?_update_other _ _ (Ne.symm (Nat.ne_of_lt (Heap.lt_size e)))).trans (q b o e)
  have k1 : ∀ b o, s.heap.get? b = some o → (s.heap.push { cls := .type "list", data := .seq ([] : List Value).toArray }).get? b = some o := fun b o e => Heap.get?_push_of_some _ e
  have gty : ∀ {h : Heap}, (∀ b o, s.heap.get? b = some o → h.get? b = some o) → h.IsGen a g := fun {h} q => hg.keeps q
  show wpAny _ A.in1 (Builtin.List.listExtendWith (.ref s.heap.objs.size) (.ref a) (.ref s.heap.objs.size)) _ _ _
  unfold Builtin.List.listExtendWith
  refine wpAny_bind (wpAny_typeOf (Heap.IsGen.typeIs (s := { s with heap := _ }) (gty k1)) ?_)
  have h1 : Builtin.List.listSameRef (.ref s.heap.objs.size) (.ref a) = false := by simp [Builtin.List.listSameRef, hSa]
  have h2 : (Value.type "generator" == Value.type "list") = false := by decide
  have h3 : (Value.type "generator" == Value.type "tuple") = false := by decide
  simp only [h1, h2, h3, Bool.or_false, Bool.false_eq_true, if_false]
  refine wpAny_bind (wpAny_pyIter_gen (s := { s with heap := _ }) (gty k1) ?_)
  refine wpAny_bind (wpAny_holding ?_)
  unfold Builtin.List.listLengthHint
  refine wpAny_bind (wpAny_specialOf (Heap.IsGen.typeIs (s := { s with heap := _ }) (gty k1)) F.gen_no_len ?_)
  show wpAny _ A.in1 (specialOf (Value.ref a) (Str.ofString "__length_hint__") >>= _) _ _ _
  refine wpAny_bind (wpAny_specialOf (Heap.IsGen.typeIs (s := { s with heap := _ }) (gty k1)) F.gen_no_hint ?_)
  refine wpAny_pure ?_
  show wpAny _ A.in1 (rule "list.extend.makes-room" >>= fun _ => Builtin.List.listTouch (.ref s.heap.objs.size) >>= fun _ =>
    again (.builtin "list.extend.loop" ⟨[.ref s.heap.objs.size, .ref a, .ref s.heap.objs.size], []⟩)) _ _ _
  refine wpAny_bind (wpAny_rule ?_)
  have hS₁ : (s.heap.push { cls := .type "list", data := .seq ([] : List Value).toArray }).get? s.heap.objs.size = some { cls := .type "list", data := .seq ([] : List Value).toArray } := Heap.get?_push_size _ rfl
  refine wpAny_bind ?_
  show wpAny _ A.in1 (updateSeq s.heap.objs.size (·.push .none) >>= fun _ => updateSeq s.heap.objs.size (·.pop)) _ _ _
  refine wpAny_bind (wpAny_updateSeq hS₁ rfl ?_)
  have hS₂ := Heap.get?_update_self (Obj.mapSeq (·.push Value.none)) hS₁ rfl
  refine wpAny_updateSeq hS₂ rfl ?_
  have hS₃ := Heap.get?_update_self (Obj.mapSeq (·.pop)) hS₂ rfl
  have k3 := up _ (Obj.mapSeq (·.pop)) (up _ (Obj.mapSeq (·.push Value.none)) k1)
  refine wpAny_pure ⟨plainId_quiet F.plain_extend_loop _, ?_⟩
  refine drainT (X := X) (H1 := H1) (sc := sc) (fp := fp) (W := W) (Fin := Fin) (Out := Out) (A := A) (g := g) (S := s.heap.objs.size) (res := .ref s.heap.objs.size) hr.hd (by have := hr.dp; show A.depth < _; omega) hSa hSc hO (fun s' acc c' H' ys q1 q2 q3 q4 q5 => ?_) sizeLine _ (gty k3) (hl.keeps k3) ⟨_, hgs, rfl, ?_⟩
  · show wpAny _ A (load s.heap.objs.size >>= _) _ _ s'
    refine wpAny_bind (wpAny_load q1 (wpAny_pure ?_))
    exact hQ s.heap.objs.size s' acc.toList H' ys (Nat.le_refl _) q2 q3 q4 q5
  · refine wake _ _ _ _ ⟨hr.hd, ?_, ?_⟩ hfr (consS s.heap.objs.size) (fun b hb => by rw [List.mem_singleton.mp hb]; exact Nat.le_refl _) k3 ⟨#[], _, hS₃, .nil⟩ hos (allBare_setGen (s := { s with heap := _ }) hb rfl)
    · have := hr.dp
      show A.depth + 3 * (k + 1) + 5 < _
      omega
    · have := hr.un
      show A.units + 1 + 1 + 16 * (k + 1) + 200 < _
      omega
end
end BT

namespace BT
open PySem PySem.Spec PyProof.Rows L2 GenW

section
variable {X : Cx} {H1 : Hp} {sc : Shared} {fp : List Addr} {W Fin : List V → Hp → Prop} {Out : List V → V → Hp → Prop}
theorem codeTupG {k : Nat} {A : Around} {u : Value} {s : Shared} {Q₁ : Value → Shared → Prop} {E : Value → Shared → Prop} (hr : Room (k + 5) A) (hfr : A.frames = some X.stack) (h : GM X k H1 sc fp W Fin Out u s) (hO : ∀ ys y H, Out ys y H → W (ys ++ [y]) H)
    (hQ : ∀ S s' acc H' ys, s.heap.objs.size ≤ S → Vals ys acc → ys.length ≤ sizeLine → Abs X H1 sc fp [S] H' s' → Fin ys H' → Q₁ (.ref s'.heap.objs.size) { s' with heap := s'.heap.push { cls := .type "tuple", data := .seq acc.toArray } }) :
    codeAny (model X.prog X.w) A (.call (.builtin "tuple.__new__") ⟨[.type "tuple", u], []⟩) (wants Q₁ E) s := by
  obtain ⟨a, g, c, rfl, ha1, ha2, hg, rst⟩ := id h
  refine codeAny_of_tree ?_
  show wpAny _ A.in1 (do checkBuiltinCall "tuple.__new__" ⟨[.type "tuple", .ref a], []⟩; again (.builtin "tuple.__new__" ⟨[.type "tuple", .ref a], []⟩)) _ _ s
  refine wpAny_bind (wpAny_of_eq (F.newCall_tuple_1 _) (wpAny_pure ⟨plainId_quiet F.plain_tuple_new _, codeAny_builtin F.entry_tuple_new ?_⟩))
  rw [Around.under_plainId F.plain_tuple_new _]
  have hsub := sub_tuple_self
  have hinit := init_tuple_lookup
  have hmh := madeHere_tuple
  have hTI : s.TypeIs (.ref a) "generator" := hg.typeIs
  wp_walk using wpAny_typeOf hTI, collectG (A := A.in1) (hr.in1) hfr h hO
  intro S s' acc H' ys q1 q2 q3 q4 q5
  show wpAny _ _ (Builtin.Tuple.tupleExact acc.toArray >>= fun v => ret v) _ _ _
  unfold Builtin.Tuple.tupleExact
  refine wpAny_bind (wpAny_newObj_type ?_ (by show acc.toArray.size ≤ sizeLine; rw [List.size_toArray, ← q2.length]; exact q3))
  exact wpAny_pure (hQ S s' acc H' ys q1 q2 q3 q4 q5)
theorem callTupG {k : Nat} {A : Around} {u : Value} {s : Shared} {Q : Value → Shared → Prop} {E : Value → Shared → Prop} (hr : Room (k + 6) A) (hfr : A.frames = some X.stack) (h : GM X k H1 sc fp W Fin Out u s) (hO : ∀ ys y H, Out ys y H → W (ys ++ [y]) H)
    (hQ : ∀ S s' acc H' ys, s.heap.objs.size ≤ S → Vals ys acc → ys.length ≤ sizeLine → Abs X H1 sc fp [S] H' s' → Fin ys H' → Q (.ref s'.heap.objs.size) { s' with heap := s'.heap.push { cls := .type "tuple", data := .seq acc.toArray } }) :
    wpAny (model X.prog X.w) A (call (.type "tuple") [u]) Q E s := by
  refine callType_codes (Q₁ := fun obj s₁ => s₁.TypeIs obj "tuple" ∧ Q obj s₁) F.called_tuple (F.typeCall_tuple_1 _) F.entry_object_init
    (codeTupG (A := A.in1) hr.in1 hfr h hO fun S s' acc H' ys q1 q2 q3 q4 q5 => ⟨⟨_, Heap.get?_push_size _ rfl, rfl⟩, hQ S s' acc H' ys q1 q2 q3 q4 q5⟩) fun obj s₁ h₁ => ?_
  exact ⟨h₁.1, F.args_object_init_2 obj _, object_init_meets F.called_tuple.init.lookup F.called_tuple.made (by decide) X.prog X.w A.in1 _ s₁ ⟨h₁.1, rfl, h₁.2⟩⟩

/-- behind the walk: the frames around go on -/
theorem Abs.inv {pins : List (Addr × Obj)} {σ : L2.St} {H' : Hp} {s' : Shared} {B : List Addr} (a : Abs X H1 sc fp B H' s') (I : Inv X pins σ H1 sc) (hex : ExOk X pins fp) : Inv X pins σ H' s' :=
  I.call' (ch := fp) a.1 a.2.2.1 a.2.2.2.1 a.2.1 hex
end

/-- tuple(e for x in ..) -/
def RcT (Q : VK) (W Fin : List V → Hp → Prop) (Out : List V → V → Hp → Prop) : Prop := Out = (fun ys y H => W (ys ++ [y]) H) ∧ Fin = fun ys H => ∀ p, H p = none → Q (.ref p) (upd H p (.tup ys))
def tTupG (P : Addr) (wi : TI) (g : TG) (te : TE) (js : List (Option Nat)) : TE := fun σ H Q => wi σ H fun J H1 => TabG H1 P ∧ ∀ H2, Tabbed P H1 H2 → ∃ W Fin Out, W [] H2 ∧ GStep J g te (capt σ js) W Fin Out ∧ RcT Q W Fin Out
theorem tup_by {J : It} {g : TG} {te : TE} {σg : L2.St} {Q : VK} {H2 : Hp} (W : List V → Hp → Prop) (w0 : W [] H2) (step : GStep J g te σg W (fun ys H => ∀ p, H p = none → Q (.ref p) (upd H p (.tup ys))) (fun ys y H => W (ys ++ [y]) H)) :
    ∃ W Fin Out, W [] H2 ∧ GStep J g te σg W Fin Out ∧ RcT Q W Fin Out := ⟨W, _, _, w0, step, rfl, rfl⟩
section
variable {X : Cx} {k : Nat} {c P : Addr} {N : List Str} {js : List (Option Nat)} {scope : Scope} {elt tg iter : Expr} {gpos pos p : Pos} {wi : TI} {g : TG} {te : TE}
theorem pe_tupG (hr : Room (k + 6) X.A) (TB : TabB X.base X.mg c P) (hcode : X.env.code = .ref c) (ok : GxOk X.N X.env.scope N js scope) (hi : PI X tg iter wi) (hs : ∀ v, genFold iter X.env v = pure v)
    (hg : ∀ A C code bi cl sc H fp pn, Room k (A.deeper (genEnv scope cl C code bi X.env)) → PG (gxc X N (genEnv scope cl C code bi X.env) A sc H fp pn) tg g)
    (he : ∀ A C code bi cl sc H fp pn, Room k (A.deeper (genEnv scope cl C code bi X.env)) → PE (gxc X N (genEnv scope cl C code bi X.env) A sc H fp pn) elt te)
    (hgl : Gl X "tuple") (hmg : X.mg "tuple" = none) (hst : starEach [.GeneratorExp elt [⟨tg, iter, [], 0⟩] scope gpos] X.env = (false, eval (.GeneratorExp elt [⟨tg, iter, [], 0⟩] scope gpos) X.env) :: starEach [] X.env := by rfl) :
    PE X (.Call (.Name "tuple" p) [.GeneratorExp elt [⟨tg, iter, [], 0⟩] scope gpos] [] pos) (tTupG P wi g te js) := by
  refine ⟨fun pins s σ H Q I hq => ?_⟩
  refine wpAny_Call_Name_kw (ld_blt I hgl hmg (by decide +kernel : bootBuiltins "tuple" = some (.type "tuple")) ?_ (by decide) (by decide))
  refine PyProof.Rows.callWith_type1 ?_ hst rfl
  rw [hst]
  show wpAny _ _ (spliced ((false, eval (.GeneratorExp elt [⟨tg, iter, [], 0⟩] scope gpos) X.env) :: backTo pos (starEach [] X.env))) _ _ s
  refine Calls.spliced_cons (gx_eval (k := k) (Rc := fun _ => RcT Q) (hr.mono (by omega)) TB hcode ok hi hs hg he I hq fun H2 sc fp W Fin Out u s' I2 hex hrc hG => ?_)
  obtain ⟨rfl, rfl⟩ := hrc
  refine Calls.spliced_nil ?_
  refine callTupG hr I2.ok.frames hG (fun ys y H h => h) fun S s2 acc H' ys q1 q2 q3 q4 q5 => ?_
  have I3 := q4.inv I2 hex
  have hf : H' s2.heap.objs.size = none := I3.hok.fresh (Nat.le_refl _)
  refine ⟨.ref s2.heap.objs.size, upd H' s2.heap.objs.size (.tup ys), I3.laid (t' := s2.toks) (fun b u e => Heap.get?_push_of_some _ e) (Nat.le_refl _) ?_, rfl, q5 _ hf⟩
  exact ⟨q3, acc, q2, ⟨_, Heap.get?_push_size _ rfl, rfl, _, rfl⟩⟩
end

/-! ### all(e for x in ..) -/
def CrA (_ : List V) (_ : Heap) : Prop := True
theorem consA : Cons [] CrA := ⟨fun _ _ _ b hb => (by cases hb), fun _ _ _ _ _ => trivial⟩
def OutA (W : List V → Hp → Prop) (Q : VK) : List V → V → Hp → Prop := fun ys y H => ∃ b, y = .bl b ∧ if b = true then W (ys ++ [y]) H else Q (.bl false) H
section
variable {X : Cx} {H1 : Hp} {sc : Shared} {fp : List Addr} {W Fin : List V → Hp → Prop}
theorem drainA {A : Around} {R : Result → Shared → Prop} {a : Addr} {g : Nat} {QV : VK} (hh : A.handled = none) (hd : A.depth < recursionLimit)
    (hend : ∀ s' H' ys, Abs X H1 sc fp [] H' s' → Fin ys H' → R (.ok (.ret (.bool true))) s') (hno : ∀ s' H', Abs X H1 sc fp [] H' s' → QV (.bl false) H' → R (.ok (.ret (.bool false))) s') :
    ∀ (m : Nat) (s : Shared), s.heap.IsGen a g → s.heap.NoLimit → (∃ gs, s.gens[g]? = some gs ∧ gs.Goes (model X.prog X.w) A.in1.in1 (RG X H1 sc fp [] CrA Fin) (YG X H1 sc fp [] CrA W (OutA W QV) a g) m (.send .none) (s.setGen g .running)) →
      codeAny (model X.prog X.w) A (.builtin "all.loop" ⟨[.ref a], []⟩) R s := by
  have fin : ∀ (s₁ : Shared), (∃ (ys : List V) (H : Hp), ys.length ≤ sizeLine ∧ Fin ys H ∧ CrA ys s₁.heap ∧ Abs X H1 sc fp [] H s₁) → ∀ h' : Heap, (∀ b o, s₁.heap.get? b = some o → h'.get? b = some o) → R (.ok (.ret (.bool true))) { s₁.setGen g .finished with heap := h' } := fun s₁ hp h' hk => by
    obtain ⟨ys, H', hl, hf, _, q1, q2, q3, q4, q5⟩ := hp
    exact hend _ H' ys ⟨q1, allBare_setGen q2 rfl, q3.trans (Un.kept hk), q4.kept hk, q5⟩ hf
  have no : ∀ (s₁ : Shared) (gs' : GenState) (H' : Hp), gs'.bare = true → Abs X H1 sc fp [] H' s₁ → QV (.bl false) H' → R (.ok (.ret (.bool false))) (s₁.setGen g gs') := fun s₁ gs' H' hb hp hq =>
    hno _ H' ⟨hp.1, allBare_setGen hp.2.1 hb, hp.2.2.1, hp.2.2.2.1, hp.2.2.2.2⟩ hq
  intro m
  induction m with
  | zero =>
    intro s hg hl ⟨gs, hgs, hgo⟩
    refine codeAny_builtin F.entry_all_loop ?_
    rw [Around.under_plainId F.plain_all_loop _]
    show wpAny _ A.in1 (pyNext (.ref a) >>= _) _ _ s
    refine wpAny_bind (wpAny_pyNext_genexpQ (A := A.in1) (P := fun n s₀ s₁ => ∃ (ys : List V) (H : Hp), ys.length ≤ sizeLine ∧ Fin ys H ∧ CrA ys s₁.heap ∧ Abs X H1 sc fp [] H s₁) hh hl hd hg hgs hgo (fun v s₁ gs' hb hv => ?_) fun s₁ hp h' hk => ?_)
    · obtain ⟨ys, y, H', hn, rv, ⟨bb, rfl, ho⟩, _, hab, _, _, hk⟩ := hv
      obtain rfl : v = .bool bb := rv
      refine wpAny_bind (wpAny_holding (wpAny_truthy_bool ?_))
      refine wpAny_bind (wpAny_letGo ?_)
      cases bb with
      | true => exact (hk s₁ ho trivial hab.1 hab.2.1 fun b o _ e => e).elim
      | false =>
        simp only [Bool.false_eq_true, if_false]
        exact wpAny_bind (wpAny_rule (wpAny_pure (no s₁ gs' H' hb hab ho)))
    · exact wpAny_bind (wpAny_rule (wpAny_pure (fin s₁ hp h' hk)))
  | succ m ih =>
    intro s hg hl ⟨gs, hgs, hgo⟩
    have hgl : g < s.gens.size := (Array.getElem?_eq_some_iff.mp hgs).1
    refine codeAny_builtin F.entry_all_loop ?_
    rw [Around.under_plainId F.plain_all_loop _]
    show wpAny _ A.in1 (pyNext (.ref a) >>= _) _ _ s
    refine wpAny_bind (wpAny_gsz (n := g + 1) hgl (wpAny_pyNext_genexpQ (A := A.in1) (P := fun n s₀ s₁ => ∃ (ys : List V) (H : Hp), ys.length ≤ sizeLine ∧ Fin ys H ∧ CrA ys s₁.heap ∧ Abs X H1 sc fp [] H s₁) hh hl hd hg hgs hgo (fun v s₁ gs' hb hv => ?_) fun s₁ hp h' hk => ?_))
    · intro hsz
      obtain ⟨ys, y, H', hn, rv, ⟨bb, rfl, ho⟩, _, hab, hl1, hg1, hk⟩ := hv
      obtain rfl : v = .bool bb := rv
      refine wpAny_bind (wpAny_holding (wpAny_truthy_bool ?_))
      refine wpAny_bind (wpAny_letGo ?_)
      have hsz1 : g < s₁.gens.size := by
        have q : (s₁.setGen g gs').gens.size = s₁.gens.size := setGen_size _ _ _
        have hsz' : g + 1 ≤ (s₁.setGen g gs').gens.size := hsz
        omega
      cases bb with
      | true =>
        simp only [if_true]
        refine wpAny_pure ⟨plainId_quiet F.plain_all_loop _, ih _ hg1 hl1 ⟨gs', setGen_at hsz1, ?_⟩⟩
        exact hk ((s₁.setGen g gs').setGen g .running) ho trivial hab.1 (allBare_setGen (allBare_setGen hab.2.1 hb) rfl) fun b o _ e => e
      | false =>
        simp only [Bool.false_eq_true, if_false]
        exact wpAny_bind (wpAny_rule (wpAny_pure (no s₁ gs' H' hb hab ho)))
    · intro _
      exact wpAny_bind (wpAny_rule (wpAny_pure (fin s₁ hp h' hk)))
end
end BT

namespace BT
open PySem PySem.Spec PyProof.Rows L2 GenW
section
variable {X : Cx} {H1 : Hp} {sc : Shared} {fp : List Addr} {W Fin : List V → Hp → Prop}
theorem callAllG {k : Nat} {A : Around} {u : Value} {s : Shared} {Q : Value → Shared → Prop} {QV : VK} {E : Value → Shared → Prop} (hr : Room (k + 4) A) (hfr : A.frames = some X.stack) (h : GM X k H1 sc fp W Fin (OutA W QV) u s)
    (hend : ∀ s' H' ys, Abs X H1 sc fp [] H' s' → Fin ys H' → Q (.bool true) s') (hno : ∀ s' H', Abs X H1 sc fp [] H' s' → QV (.bl false) H' → Q (.bool false) s') :
    wpAny (model X.prog X.w) A (call (.builtin "all") [u]) Q E s := by
  obtain ⟨a, g, c, rfl, ha1, ha2, hg, hgs, hos, hb, hl, hkp, w0, wake⟩ := h
  refine call_function_tree F.kind_all F.plain_all F.entry_all (F.args_all1 _) ?_
  unfold Builtin.«all»
  refine wpAny_bind (m := oneArg "all" _) (wpAny_pure (wpAny_bind (wpAny_pyIter_gen hg ?_)))
  refine wpAny_pure ⟨plainId_quiet F.plain_all_loop _, drainA (X := X) (H1 := H1) (sc := sc) (fp := fp) (W := W) (Fin := Fin) (A := A) (a := a) (g := g) (QV := QV) hr.hd (by have := hr.dp; omega) hend hno sizeLine _ hg hl ⟨_, hgs, rfl, ?_⟩⟩
  refine wake _ _ _ _ ⟨hr.hd, ?_, ?_⟩ hfr consA (fun b hb => by cases hb) (fun b o e => e) trivial hos (allBare_setGen hb rfl)
  · have q := hr.dp
    show A.depth + 3 * (k + 1) + 5 < _
    omega
  · have q := hr.un
    show A.units + 1 + 1 + 16 * (k + 1) + 200 < _
    omega
end
def RcA (Q : VK) (W Fin : List V → Hp → Prop) (Out : List V → V → Hp → Prop) : Prop := Out = OutA W Q ∧ Fin = fun _ H => Q (.bl true) H
def tAllG (P : Addr) (wi : TI) (g : TG) (te : TE) (js : List (Option Nat)) : TE := fun σ H Q => wi σ H fun J H1 => TabG H1 P ∧ ∀ H2, Tabbed P H1 H2 → ∃ W Fin Out, W [] H2 ∧ GStep J g te (capt σ js) W Fin Out ∧ RcA Q W Fin Out
theorem all_by {J : It} {g : TG} {te : TE} {σg : L2.St} {Q : VK} {H2 : Hp} (W : Nat → Hp → Prop) (w0 : W 0 H2) (step : GStep J g te σg (fun ys => W ys.length) (fun _ H => Q (.bl true) H) (fun ys y H => ∃ b, y = .bl b ∧ if b = true then W (ys.length + 1) H else Q (.bl false) H)) :
    ∃ W Fin Out, W [] H2 ∧ GStep J g te σg W Fin Out ∧ RcA Q W Fin Out := by
  refine ⟨fun ys => W ys.length, _, _, w0, ?_, rfl, rfl⟩
  have e : OutA (fun ys => W ys.length) Q = fun ys y H => ∃ b, y = .bl b ∧ if b = true then W (ys.length + 1) H else Q (.bl false) H := by
    funext ys y H
    have el : (ys ++ [y]).length = ys.length + 1 := by simp
    show (∃ b, y = V.bl b ∧ if b = true then W (ys ++ [y]).length H else Q (V.bl false) H) = _
    rw [el]
  rw [e]
  exact step
section
variable {X : Cx} {k : Nat} {c P : Addr} {N : List Str} {js : List (Option Nat)} {scope : Scope} {elt tg iter : Expr} {gpos pos p : Pos} {wi : TI} {g : TG} {te : TE}
theorem pe_allG (hr : Room (k + 4) X.A) (TB : TabB X.base X.mg c P) (hcode : X.env.code = .ref c) (ok : GxOk X.N X.env.scope N js scope) (hi : PI X tg iter wi) (hs : ∀ v, genFold iter X.env v = pure v)
    (hg : ∀ A C code bi cl sc H fp pn, Room k (A.deeper (genEnv scope cl C code bi X.env)) → PG (gxc X N (genEnv scope cl C code bi X.env) A sc H fp pn) tg g)
    (he : ∀ A C code bi cl sc H fp pn, Room k (A.deeper (genEnv scope cl C code bi X.env)) → PE (gxc X N (genEnv scope cl C code bi X.env) A sc H fp pn) elt te)
    (hgl : Gl X "all") (hmg : X.mg "all" = none) (hst : starEach [.GeneratorExp elt [⟨tg, iter, [], 0⟩] scope gpos] X.env = (false, eval (.GeneratorExp elt [⟨tg, iter, [], 0⟩] scope gpos) X.env) :: starEach [] X.env := by rfl) :
    PE X (.Call (.Name "all" p) [.GeneratorExp elt [⟨tg, iter, [], 0⟩] scope gpos] [] pos) (tAllG P wi g te js) := by
  refine ⟨fun pins s σ H Q I hq => ?_⟩
  refine wpAny_Call_Name_kw (ld_blt I hgl hmg (by decide +kernel : bootBuiltins "all" = some (.builtin "all")) ?_ (by decide) (by decide))
  refine PyProof.Rows.callWith_builtin1 ?_ hst rfl
  rw [hst]
  show wpAny _ _ (spliced ((false, eval (.GeneratorExp elt [⟨tg, iter, [], 0⟩] scope gpos) X.env) :: backTo pos (starEach [] X.env))) _ _ s
  refine Calls.spliced_cons (gx_eval (k := k) (Rc := fun _ => RcA Q) (hr.mono (by omega)) TB hcode ok hi hs hg he I hq fun H2 sc fp W Fin Out u s' I2 hex hrc hG => ?_)
  obtain ⟨rfl, rfl⟩ := hrc
  refine Calls.spliced_nil ?_
  exact callAllG hr I2.ok.frames hG (fun s2 H' ys q4 q5 => ⟨.bl true, H', q4.inv I2 hex, rfl, q5⟩) fun s2 H' q4 q5 => ⟨.bl false, H', q4.inv I2 hex, rfl, q5⟩
end
end BT

namespace BT
open PySem PySem.Spec PyProof.Rows L2 GenW
set_option maxHeartbeats 4000000 in
theorem meets_enumT (l : Addr) (items : Array Value) (n : Nat) (dct : Option Addr) (sl : Array (Option Value)) :
    Meets (Builtin.«enumerate.__new__» ⟨[.type "enumerate", .ref l], []⟩) (fun _ R s => s.heap.get? l = some { cls := .type "tuple", dict := dct, data := .seq items n, slots := sl } ∧
      R (.ok (.ret (.ref (s.heap.push { cls := .type "tuple_iterator", data := .fields #[.ref l, .int 0 0] }).objs.size)))
        { s with heap := (s.heap.push { cls := .type "tuple_iterator", data := .fields #[.ref l, .int 0 0] }).push { cls := .type "enumerate", data := .fields #[.none, .bool false, .ref s.heap.objs.size, rawInt 0, .none, .none] } }) :=
  .of_wp fun prog w A R s h => by
    obtain ⟨hp, g, d, tk, os⟩ := s
    obtain ⟨hl, h⟩ := h
    have hsub := sub_enumerate
    have hL : Heap.IsTuple (Shared.heap ⟨hp, g, d, tk, os⟩) l items := ⟨_, hl, rfl, n, rfl⟩
    wp_walk using AutoSeq1.wpAny_loadPart' hl
    refine wpAny_stack_any fun st => wpAny_pure ?_
    split
    · rename_i c _ _ _ _ _
      cases (c == Value.type "enumerate") <;> (wp_walk using AutoSeq1.wpAny_loadPart' hl, wpAny_pyIter_tuple hL; exact ⟨_, rfl, h⟩)
    · wp_walk using AutoSeq1.wpAny_loadPart' hl, wpAny_pyIter_tuple hL
      exact ⟨_, rfl, h⟩
section
variable {prog : Program} {w : World} {A : Around} {E : Value → Shared → Prop} {s : Shared}
theorem callEnumT {l : Addr} {items : Array Value} {Q : Value → Shared → Prop} (hL : s.heap.IsTuple l items)
    (h : ∀ h', IsEnum h' (s.heap.objs.size + 1) s.heap.objs.size 0 .none → h'.IsTupleIter s.heap.objs.size l 0 → h'.objs.size = s.heap.objs.size + 2 →
      (∀ b o, s.heap.get? b = some o → h'.get? b = some o) → Q (.ref (s.heap.objs.size + 1)) { s with heap := h' }) :
    wpAny (model prog w) A (call (.type "enumerate") [.ref l]) Q E s := by
  obtain ⟨⟨c, dct, dt, sl⟩, hl, hc, n, hd⟩ := hL
  replace hc : c = .type "tuple" := hc
  replace hd : dt = .seq items n := hd
  subst hc hd
  refine callType_new F.called_enumerate (by decide) (F.typeCall_enumerate_1 _) (F.newCall_enumerate_1 _) (fun obj => F.args_object_init_2 obj _) F.entry_enumerate_new (meets_enumT l items n dct sl) ⟨hl, ?_⟩
  have hz : (s.heap.push { cls := .type "tuple_iterator", data := .fields #[.ref l, .int 0 0] }).objs.size = s.heap.objs.size + 1 := Heap.size_push ..
  show _ ∧ _
  rw [hz]
  have he : IsEnum ((s.heap.push { cls := .type "tuple_iterator", data := .fields #[.ref l, .int 0 0] }).push
      { cls := .type "enumerate", data := .fields #[.none, .bool false, .ref s.heap.objs.size, rawInt 0, .none, .none] }) (s.heap.objs.size + 1) s.heap.objs.size 0 .none := by
    have q := Heap.get?_push_size (s.heap.push { cls := .type "tuple_iterator", data := .fields #[.ref l, .int 0 0] })
      (o := { cls := .type "enumerate", data := .fields #[.none, .bool false, .ref s.heap.objs.size, rawInt 0, .none, .none] }) rfl
    rw [hz] at q
    exact q
  exact ⟨⟨_, he, rfl⟩, h _ he ⟨_, Heap.get?_push_of_some _ (Heap.get?_push_size _ rfl), rfl, rfl⟩ (by rw [Heap.size_push, hz]) fun b o x => Heap.get?_push_of_some _ (Heap.get?_push_of_some _ x)⟩
end
/-- enumerate(tuple) -/
def IteT (K : PySem.W.Frag) (a : Addr) : It :=
  ⟨fun i H => ∃ (xs : List V) (x : V), SqT K H a xs ∧ xs[i]? = some x, fun i H v H' => ∃ T x, v = .ref T ∧ H T = none ∧ H' = upd H T (.tup [.int (i : Nat), x]) ∧ ∀ xs, SqT K H a xs → xs[i]? = some x, fun i H => ∃ xs : List V, SqT K H a xs ∧ xs.length ≤ i⟩
theorem turn_enumT {P : Program} {w : World} {K : PySem.W.Frag} {elts : List Expr} {kk : Nat} {tpos : Pos} (a e it : Addr) :
    Turn P w K (.Tuple elts kk tpos) (IteT K a) [e, it] e (fun i h => (∃ old, IsEnum h e it ((i : Nat) : Int) old) ∧ h.IsTupleIter it a i ∧ e ≠ it) where
  mem := List.mem_cons_self
  obj := fun i h st b hb => by
    obtain ⟨⟨old, he⟩, ⟨o, ho, hc, hd⟩, _⟩ := st
    rcases List.mem_cons.mp hb with z | z
    · rw [z]
      exact ⟨_, he, fun v q => nomatch q⟩
    · rw [List.mem_singleton.mp z]
      exact ⟨o, ho, fun v q => by rw [hd] at q; cases q⟩
  keep := fun i h h' st k => by
    obtain ⟨⟨old, he⟩, hi, hne⟩ := st
    exact ⟨⟨old, k e List.mem_cons_self _ he⟩, hi.at fun o q => k it (List.mem_cons_of_mem _ (List.mem_singleton.mpr rfl)) o q, hne⟩
  item := by
    intro X hP hw hK hc i pins s σ H E I hf st hg
    subst hP hw hK
    obtain ⟨⟨old, he⟩, hit, hne⟩ := st
    obtain ⟨xs, x, hq, hx⟩ := hg
    obtain ⟨its, rv, p, hz⟩ := I.tuple hq
    obtain ⟨u, hu, ru⟩ := rv.get hx
    have hel : e < s.heap.objs.size := Heap.lt_size he
    obtain ⟨oi, hoi, hoic, hoid⟩ := id hit
    have hil : it < s.heap.objs.size := Heap.lt_size hoi
    obtain ⟨oa, hoa, hoac, _, hoad⟩ := (show s.heap.IsTuple a its.toArray from p)
    have nai : a ≠ it := fun z => by
      rw [z, hoi] at hoa
      cases hoa
      rw [hoad] at hoid
      cases hoid
    have nae : e ≠ a := fun z => by
      have q : s.heap.get? e = some _ := he
      rw [z, hoa] at q
      cases q
      exact absurd (show Value.type "enumerate" = Value.type "tuple" from hoac) (by decide)
    have hlen : i < its.toArray.size := by
      rw [List.size_toArray]
      exact (List.getElem?_eq_some_iff.mp hu).1
    refine wpAny_pyNext_enum_itemD (Draws.tuple (A := X.A.in1) (I.ok.hd hc) it a nai its.toArray) he ⟨hit, p⟩ hlen hne (fun z => ?_) fun v h' tk hv ho hst' hT hsz hk => ?_
    · rcases List.mem_cons.mp z with z | z
      · exact hne z
      · exact nae (List.mem_singleton.mp z)
    obtain ⟨hit', _⟩ := hst'
    have ev : v = u := by
      have q : its.toArray[i]? = some v := hv
      rw [List.getElem?_toArray, hu] at q
      exact (Option.some.inj q).symm
    subst ev
    refine ⟨_, rfl, wpAny_letOwnedTupleGo_enum (s := { s with heap := h', toks := tk + 1 }) ho fun h'' he' sb => ?_⟩
    have hT2 : h''.get? s.heap.objs.size = some { cls := .type "tuple", data := .seq #[.int i tk, v] } := (sb.2 _ (Nat.ne_of_gt hel)).trans hT
    have new : ObjOk X.prog X.w (upd H s.heap.objs.size (.tup [.int (i : Nat), x])) h'' s.heap.objs.size (.tup [.int (i : Nat), x]) :=
      ⟨by show 2 ≤ sizeLine; decide, [.int i tk, v], .cons ⟨_, rfl⟩ (.cons ru .nil), ⟨_, hT2, rfl, _, rfl⟩⟩
    have I1 : Inv X pins σ (upd H s.heap.objs.size (.tup [.int (i : Nat), x])) { s with heap := h'', toks := tk + 1 } :=
      I.turnedNew (ch := [e, it]) (fun b ob hb q => (sb.2 b (fun z => hb (by simp [z]))).trans (hk b ob (fun z => hb (by simp [z])) (fun z => hb (by simp [z])) q)) hf (Nat.le_refl _) new
    refine ⟨.ref s.heap.objs.size, _, I1, rfl, ⟨_, x, rfl, I.hok.fresh (Nat.le_refl _), rfl, fun ys hy => by rw [I.tuple_inj hy hq]; exact hx⟩, ⟨⟨v, ?_⟩, hit'.at fun o q => (sb.2 it (Ne.symm hne)).trans q, hne⟩, fun b hb => ?_⟩
    · have e1 : ((i + 1 : Nat) : Int) = (i : Int) + 1 := by omega
      rw [e1]
      exact he'
    · have hb' : b < s.heap.objs.size := by
        rcases List.mem_cons.mp hb with z | z
        · rw [z]; exact hel
        · rw [List.mem_singleton.mp z]; exact hil
      rw [upd_ne (Nat.ne_of_lt hb')]
      exact (hf b hb).1
  done := by
    intro X hP hw hK hc i pins s σ H E I hf st hg
    subst hP hw hK
    obtain ⟨⟨old, he⟩, hit, hne⟩ := st
    obtain ⟨xs, hq, hx⟩ := hg
    obtain ⟨its, rv, p, hz⟩ := I.tuple hq
    obtain ⟨f0, f1, f2, f3, f4, f5⟩ := hf it (List.mem_cons_of_mem _ (List.mem_singleton.mpr rfl))
    have hl := rv.length
    have hno : its.toArray[i]? = none := by
      rw [List.getElem?_toArray]
      exact List.getElem?_eq_none_iff.mpr (by omega)
    have D0 : Draws X.prog X.w X.A.in1 it [it, a] 0 (fun _ _ => False) (fun _ h => h.IsTupleIter it a i ∧ h.IsTuple a its.toArray) :=
      { live := fun _ _ st => let ⟨o, ho, _⟩ := st.1; ⟨o, ho⟩
        frame := fun _ _ _ st hk => ⟨st.1.at fun o e => hk it List.mem_cons_self o e, st.2.at fun o e => hk a (List.mem_cons_of_mem _ List.mem_cons_self) o e⟩
        item := fun j s Q E hj => absurd hj (Nat.not_lt_zero _)
        done := fun s Q E st hE => wpAny_nextOf_tuple_end (I.ok.hd hc) st.1 st.2 hno hE }
    exact wpAny_pyNext_enum_endD D0 he ⟨hit, p⟩ fun h' eb => ⟨rfl, I.turned (t' := s.toks) (fun b o hb q => eb b o hb q) f0 f1 f3 f4 f5⟩
  self := fun A i s Q E st h => let ⟨⟨_, he⟩, _⟩ := st; wpAny_pyIter_enum he h
def iEnumT (K : PySem.W.Frag) (ta : TA) : TI := fun σ H R => ta σ H fun vs H1 => ∃ a xs, vs = [.ref a] ∧ SqT K H1 a xs ∧ R (IteT K a) H1
theorem pi_enumT {X : Cx} {e : Expr} {ta : TA} {p pos tpos : Pos} {elts : List Expr} {kk : Nat} (hg : Gl X "enumerate") (hm : X.mg "enumerate" = none) (ha : PA X [e] ta) (hs : starEach [e] X.env = [(false, eval e X.env)] := by rfl) :
    PI X (.Tuple elts kk tpos) (.Call (.Name "enumerate" p) [e] [] pos) (iEnumT X.K ta) := by
  refine ⟨fun pins s σ H R I h => ?_⟩
  refine Call_ (ld_blt I hg hm boot_enumerate (PyProof.Rows.callWith_type1 (thn (ha.run pos pins s σ H _ I h) fun us s1 ⟨vs, H1, I1, r1, q1⟩ => ?_) hs rfl))
  obtain ⟨a, xs, ex, hq, q⟩ := q1
  subst ex
  obtain ⟨u, rfl⟩ : ∃ u, us = [u] := by
    cases r1 with
    | cons r rr => cases rr; exact ⟨_, rfl⟩
  obtain rfl : u = Value.ref a := by
    cases r1 with
    | cons r rr => exact r
  obtain ⟨its, rv, p', hz⟩ := I1.tuple hq
  refine callEnumT p' fun h' he hit hsz hk => wpAny_pyIter_enum he ?_
  refine ⟨s1.heap.objs.size + 1, [s1.heap.objs.size + 1, s1.heap.objs.size], _, _, H1, rfl, I1.kept (t' := s1.toks) hk, turn_enumT a (s1.heap.objs.size + 1) s1.heap.objs.size, ⟨⟨.none, he⟩, hit, Nat.succ_ne_self _⟩, fun b hb => ?_, q⟩
  have hle : s1.heap.objs.size ≤ b := by
    rcases List.mem_cons.mp hb with z | z
    · rw [z]
      exact Nat.le_add_right _ _
    · rw [List.mem_singleton.mp z]
      exact Nat.le_refl _
  exact I1.fpOk hle (I1.hok.fresh hle)
end BT

namespace BT
open PySem PySem.Spec PyProof.Rows L2 GenW
/-- the end, with tables of code objects of some defs -/
theorem walk_tabs {l : PySem.W.OpenLaw} {n k : Nat} {q : Program} {loose : List Str} {XP : (Str → Option Value) → Heap → Prop} {YP : World → Heap → Prop} {d : DefRec} {K : Params → PySem.W.Frag} {CX : World → CXT} {x : Str}
    (hn : l.most = some n) (hn2 : n ≤ sizeLine) (hdf : d.params.defaults = []) (hr : Room k callerA) (hY : ∀ (w : World) (h : Heap), YP w h → (K w.params).In h)
    (F : ∀ (w : World) (mg : Str → Option Value) (fa : Addr) (h : Heap), YP w h → (K w.params).In h → h.Ns mainGlobals mg → mg d.name = some (.ref fa) →
      (∀ (y : Str) (c P : Addr), ((recsOf q).find? fun e => e.name == y).isSome = true → PySem.W.tabIn (K w.params) y = some (c, P) → PySem.W.CodeHd h c P ∧ h.get? P = some { cls := .none, data := .fields #[] }) → LamX.LawAtS l w (K w.params) (CX w) k n x mg fa h)
    (hCX : ∀ (w : World) (H : Hp) (s : Shared) (e : Value) (s' : Shared), CX w [] H s (fun _ _ _ => False) e s' → False) :
    PySem.W.WalkO q loose XP YP l.row.toRowW d [] (fun f vs => PySem.call f vs) := by
  refine Att.attach_callB hn hdf fun w s₀ s₁ mg mb fa o pm cd doc a vs ns G Y ho hd hcd hmg hobj hints hlen hbits hg => ?_
  have KX := hY w _ Y
  have tabs : ∀ (y : Str) (c P : Addr), ((recsOf q).find? fun e => e.name == y).isSome = true → PySem.W.tabIn (K w.params) y = some (c, P) → PySem.W.CodeHd s₁.heap c P ∧ s₁.heap.get? P = some { cls := .none, data := .fields #[] } := fun y c P h1 h2 => by
    obtain ⟨e, he⟩ := Option.isSome_iff_exists.mp h1
    exact PySem.W.tab_of G.T KX he h2
  obtain ⟨fd, cs, sp, hT, nT, C, hb, hsp, hF⟩ := F w mg fa _ Y KX G.T.g hmg tabs
  exact LamX.law_callTs KX G.T.g G.T.b G.T.builtins G.T.nolimit hg hT nT C G.T.bmain hobj hints (Nat.le_trans hlen hn2) hr hF hb (fun H hH hS => hsp H a ns hlen hbits hH hS) fun H e s' => hCX w H s₁ e s'
/-- a def whose code object is known -/
theorem Fun.okC {P : Program} {w : World} {K : PySem.W.Frag} {mg : Str → Option Value} {base : Heap} {x qual : Str} {st : Stmt} {f c : Addr} {fd : FuncData} {N ps : List Str} {k : Nat} {sp : Sp} (F : Fun K x qual st f fd) (hc : fd.code = .ref c) (S : FnScope N ps (defScope st)) (len : ∀ vs H Q E, sp vs H Q E → vs.length = ps.length)
    (hbody : ∀ (A : Around) (outer : List Env) (s : Shared) (H : Hp) (vs : List V) (Q : VK) (E : XK), Room k (A.deeper (envOfC qual (defScope st) s.heap.objs.size f (.ref c))) → sp vs H Q E →
      ∃ t, PSs (cxOf CX0 P w K mg base N qual (defScope st) f (.ref c) A outer s H E).nox (defBody st) t ∧ t { nx := fun _ H' => Q .non H', rt := Q } (start N vs) H) : FnOk P w K mg base CX0 (k + 1) f fd ps sp := by
  obtain ⟨oc, od, kV, doc, pm, an, cdv, ct, osl, rfl, lk, hcd⟩ := F.ex
  have e : cdv = .ref c := hc
  subst e
  refine fn_of lk hcd S len fun A outer s H vs Q E hr hsp => ?_
  obtain ⟨t, h, q⟩ := hbody A outer s H vs Q E hr hsp
  exact ⟨t, h.nox, q⟩
/-- a def of the text, as it stands behind the top -/
structure D1 (K : PySem.W.Frag) (mg : Str → Option Value) (x : Str) (st : Stmt) (ps : List Str) where
  f : Addr
  fd : FuncData
  F : Fun K x x st f fd
  g : mg x = some (.ref f)
  b : Binds K fd ps []
def d1_mk {K : PySem.W.Frag} {h : Heap} {mg : Str → Option Value} {x : Str} {st : Stmt} {ps : List Str} {f : Addr} {oc : Value} {od an : Option Addr} {osl : Array (Option Value)} {kV doc pm cdv ct : Value} (X : K.In h) (G : h.Ns mainGlobals mg)
    (a : PySem.W.nsIn K mainGlobals x = some (some (.ref f))) (l : K.lookup f = some ⟨oc, od, .func (PySem.W.fnOf x x (defArgs st) (defBody st) (defScope st) .none kV doc pm an cdv ct), osl⟩) (c : PySem.W.codeIn K cdv x = true) (k : PySem.W.keepIn K (.ref f) = true)
    (hb : ∀ (kV doc pm : Value) (an : Option Addr) (cdv ct : Value) (us : List Value), us.length = ps.length → bindArgs (PySem.W.fnOf x x (defArgs st) (defBody st) (defScope st) .none kV doc pm an cdv ct) ⟨us, []⟩ = pure (ps.zip us)) : D1 K mg x st ps :=
  ⟨f, _, fun_mk l c k, PySem.W.mg_of X G a, (fun_mk l c k).binds hb⟩
theorem toB {base : Heap} {mg : Str → Option Value} {c P : Addr} (t : LamX.TabB base mg c P) : TabB base mg c P := ⟨t.code, t.bm, t.gP⟩
theorem tabG0 {H : Hp} {P : Addr} (h : H P = some (.tbl #[])) : TabG H P := ⟨#[], h, trivial⟩
/-! ### heaps: all but M is kept -/
def Kp (M : List Addr) (H H' : Hp) : Prop := ∀ b o, b ∉ M → H b = some o → H' b = some o
theorem Kp.refl {M : List Addr} (H : Hp) : Kp M H H := fun _ _ _ h => h
theorem Kp.trans {M : List Addr} {a b c : Hp} (x : Kp M a b) (y : Kp M b c) : Kp M a c := fun p o h e => y p o h (x p o h e)
theorem Kp.mono {M M' : List Addr} {a b : Hp} (x : Kp M a b) (h : ∀ p ∈ M, p ∈ M') : Kp M' a b := fun p o hp e => x p o (fun z => hp (h p z)) e
theorem Kp.new {M : List Addr} {H : Hp} {p : Addr} {o : HO} (h : H p = none) : Kp M H (upd H p o) := fun a u _ e => by
  rw [upd_ne (ne_of_none e h)]
  exact e
theorem Kp.wr {M : List Addr} {H H' : Hp} {p : Addr} {o : HO} (x : Kp M H H') (h : p ∈ M) : Kp M H (upd H' p o) := fun a u ha e => by
  rw [upd_ne (fun z => ha (by rw [z]; exact h))]
  exact x a u ha e
/-- what H does not know may change -/
theorem Kp.mut {M : List Addr} {H H' : Hp} {p : Addr} {o : HO} (x : Kp M H H') (h : H p = none) : Kp M H (upd H' p o) := fun a u ha e => by
  rw [upd_ne (ne_of_none e h)]
  exact x a u ha e
theorem Kp.back {H H' : Hp} {p : Addr} (x : Kp [] H H') (h : H' p = none) : H p = none := by
  cases q : H p with
  | none => rfl
  | some o =>
    rw [x p o (fun z => by cases z) q] at h
    cases h
theorem Kp.backM {M : List Addr} {H H' : Hp} {p : Addr} (x : Kp M H H') (hm : p ∉ M) (h : H' p = none) : H p = none := by
  cases q : H p with
  | none => rfl
  | some o =>
    rw [x p o hm q] at h
    cases h
theorem Kp.l {K : PySem.W.Frag} {M : List Addr} {H H' : Hp} {a : Addr} {xs : List V} (x : Kp M H H') (ha : a ∉ M) (h : SqL K H a xs) : SqL K H' a xs := by
  rcases h with (h | ⟨o, h⟩) | h
  · exact .inl (.inl (x a _ ha h))
  · exact .inl (.inr ⟨o, x a _ ha h⟩)
  · exact .inr h
theorem Kp.t {K : PySem.W.Frag} {M : List Addr} {H H' : Hp} {a : Addr} {xs : List V} (x : Kp M H H') (ha : a ∉ M) (h : SqT K H a xs) : SqT K H' a xs := by
  rcases h with (h | ⟨o, h⟩) | h
  · exact .inl (.inl (x a _ ha h))
  · exact .inl (.inr ⟨o, x a _ ha h⟩)
  · exact .inr h
theorem lOf {K : PySem.W.Frag} {H : Hp} {a : Addr} {xs : List V} (h : H a = some (.lst xs)) : SqL K H a xs := .inl (.inl h)
theorem tOf {K : PySem.W.Frag} {H : Hp} {a : Addr} {xs : List V} (h : H a = some (.tup xs)) : SqT K H a xs := .inl (.inl h)
/-! ### data -/
theorem dpAll_ints {K : PySem.W.Frag} {H : Hp} : ∀ ns : List Int, DpAll K H (ns.map V.int) (ns.map PyData.int)
  | [] => .nil
  | n :: r => .cons (.int n) (dpAll_ints r)
theorem eqv_nil : ∀ ns : List Int, PyData.eqv (.list (ns.map PyData.int)) (.list []) = ns.isEmpty
  | [] => rfl
  | n :: r => rfl
theorem shaped_ints (ns : List Int) : SeqAt.shaped (.list (ns.map PyData.int)) = true := by
  induction ns with
  | nil => rfl
  | cons n r ih => exact ih
/-! ### the deck that is a dict -/
abbrev dkv (c : Addr) (sd a : Int) : List (Key × V) := [(.inr "cells", .ref c), (.inr "seed", .int sd), (.inr "at", .int a)]
theorem kne1 : ¬ (Sum.inr (Str.ofString "cells") : Key) = Sum.inr (Str.ofString "seed") := by decide +kernel
theorem kne2 : ¬ (Sum.inr (Str.ofString "cells") : Key) = Sum.inr (Str.ofString "at") := by decide +kernel
theorem kne3 : ¬ (Sum.inr (Str.ofString "seed") : Key) = Sum.inr (Str.ofString "at") := by decide +kernel
theorem dk_cells {c : Addr} {sd a : Int} : valV (dkv c sd a) (.inr "cells") = some (.ref c) := valV_pos rfl
theorem dk_seed {c : Addr} {sd a : Int} : valV (dkv c sd a) (.inr "seed") = some (.int sd) := (valV_neg kne1).trans (valV_pos rfl)
theorem dk_at {c : Addr} {sd a : Int} : valV (dkv c sd a) (.inr "at") = some (.int a) := (valV_neg kne2).trans ((valV_neg kne3).trans (valV_pos rfl))
theorem dk_put {c : Addr} {sd a b : Int} : putK (dkv c sd a) (.inr "at") (.int b) = dkv c sd b := by
  unfold putK dkv
  rw [if_pos (by simp)]
  have e1 : ¬ Str.ofString "cells" = Str.ofString "at" := by decide +kernel
  have e2 : ¬ Str.ofString "seed" = Str.ofString "at" := by decide +kernel
  simp [e1, e2]
def Dk (d c : Addr) (H : Hp) : Prop := ∃ (cells : List Int) (sd a : Int), H d = some (.dK (dkv c sd a)) ∧ H c = some (.lst (cells.map V.int)) ∧ cells.length ≤ 63
theorem Dk.ne {d c : Addr} {H : Hp} (h : Dk d c H) : d ≠ c := by
  obtain ⟨_, _, _, h1, h2, _⟩ := h
  exact ne_of h1 h2 (by intro z; cases z)
theorem Dk.kp {d c : Addr} {M : List Addr} {H H' : Hp} (h : Dk d c H) (k : Kp M H H') (hd : d ∉ M) (hc : c ∉ M) : Dk d c H' := by
  obtain ⟨cs, sd, a, h1, h2, h3⟩ := h
  exact ⟨cs, sd, a, k _ _ hd h1, k _ _ hc h2, h3⟩
end BT
namespace BT
open PySem PySem.Spec PyProof.Rows L2 GenW
theorem dgAt {H : Hp} {d c : Addr} {sd a : Int} (h : H d = some (.dK (dkv c sd a))) : DGet H d (.str "at") (some (.int a)) := by
  have z := DGet.k (k := .inr "at") h
  rw [dk_at] at z
  exact z
theorem dgSeed {H : Hp} {d c : Addr} {sd a : Int} (h : H d = some (.dK (dkv c sd a))) : DGet H d (.str "seed") (some (.int sd)) := by
  have z := DGet.k (k := .inr "seed") h
  rw [dk_seed] at z
  exact z
theorem dgCells {H : Hp} {d c : Addr} {sd a : Int} (h : H d = some (.dK (dkv c sd a))) : DGet H d (.str "cells") (some (.ref c)) := by
  have z := DGet.k (k := .inr "cells") h
  rw [dk_cells] at z
  exact z
theorem dpAt {H : Hp} {d c : Addr} {sd a b : Int} (h : H d = some (.dK (dkv c sd a))) : DPut H d (.str "at") (.int b) (upd H d (.dK (dkv c sd b))) := by
  have z := DPut.k (k := .inr "at") (v := .int b) h (by show 3 < sizeLine; decide)
  rw [dk_put] at z
  exact z
theorem kp2 {d c : Addr} {H H' : Hp} (h : ∀ b o, b ≠ d → b ≠ c → H b = some o → H' b = some o) : Kp [d, c] H H' := fun b o hb e => h b o (fun z => hb (by rw [z]; exact List.mem_cons_self)) (fun z => hb (by rw [z]; exact List.mem_cons_of_mem _ (List.mem_singleton.mpr rfl))) e
theorem fmod_lt {x m : Int} (h : 0 < m) : 0 ≤ x.fmod m ∧ x.fmod m < m := by
  rw [Int.fmod_eq_emod_of_nonneg _ (Int.le_of_lt h)]
  exact ⟨Int.emod_nonneg _ (by omega), Int.emod_lt_of_pos _ h⟩
theorem cmulL {i j : Int} (h1 : -(2 ^ 64) < i) (h2 : i < 2 ^ 64) : CMul i j := .inl ⟨h1, h2⟩
theorem cmulR {i j : Int} (h1 : -(2 ^ 64) < j) (h2 : j < 2 ^ 64) : CMul i j := .inr ⟨h1, h2⟩
theorem modm {x m : Int} (h : 0 < m) : 0 ≤ x % m ∧ x % m < m := ⟨Int.emod_nonneg _ (by omega), Int.emod_lt_of_pos _ h⟩
end BT

namespace BT
open PySem PySem.Spec PyProof.Rows L2 GenW
theorem walk_enumT {K : PySem.W.Frag} {a : Addr} {xs : List V} : Walk (IteT K a) xs.length (fun H => SqT K H a xs) (YPair (fun i => some (.int (i : Nat))) (fun i => xs[i]?)) := by
  refine ⟨fun i _ hi q => ⟨xs, xs[i], q, List.getElem?_eq_getElem hi⟩, fun _ q => ⟨xs, q, Nat.le_refl _⟩, fun i H v H' _ q y => ?_⟩
  obtain ⟨T, x, h1, h2, h3, h4⟩ := y
  exact ⟨T, .int (i : Nat), x, h1, h2, h3, rfl, h4 xs q⟩
theorem walk_zipT {K : PySem.W.Frag} {a b : Addr} {xs ys : List V} {n : Nat} (hn : n = min xs.length ys.length) : Walk (RZ.ItzT K a b) n (fun H => SqT K H a xs ∧ SqT K H b ys) (YPair (fun i => xs[i]?) (fun i => ys[i]?)) := by
  subst hn
  refine ⟨fun i _ hi q => ?_, fun _ q => ⟨xs, ys, q.1, q.2, by omega⟩, fun i H v H' _ q y => ?_⟩
  · have h1 : i < xs.length := by omega
    have h2 : i < ys.length := by omega
    exact ⟨xs, ys, xs[i], ys[i], q.1, q.2, List.getElem?_eq_getElem h1, List.getElem?_eq_getElem h2⟩
  · obtain ⟨T, x, z, h1, h2, h3, h4, h5⟩ := y
    exact ⟨T, x, z, h1, h2, h3, h4 xs q.1, h5 ys q.2⟩
section
variable {J : It} {n : Nat} {G : Hp → Prop} {Y : Nat → Hp → V → Hp → Prop}
theorem tup_nx {n : Nat} {ys : List V} {y : V} {H : Hp} {Pv : List V → Hp → Prop} (hn : n < sizeLine) (hlt : ys.length < n) (h : Pv (ys ++ [y]) H) : ys.length < sizeLine ∧ (ys ++ [y]).length ≤ n ∧ Pv (ys ++ [y]) H :=
  ⟨by omega, by rw [List.length_append]; exact hlt, h⟩
theorem tup_it (w : Walk J n G Y) {g : TG} {te : TE} {σg : L2.St} {Q : VK} {H2 : Hp} (Pv : List V → Hp → Prop) (h0 : Pv [] H2) (hG : ∀ ys H, ys.length ≤ n → Pv ys H → G H)
    (hs : ∀ ys x H H', ys.length < n → Pv ys H → Y ys.length H x H' → g x σg H' fun σ2 H3 => Le σg σ2 ∧ te σ2 H3 fun y H4 => ys.length < sizeLine ∧ (ys ++ [y]).length ≤ n ∧ Pv (ys ++ [y]) H4) (hd : ∀ ys H p, ys.length = n → Pv ys H → H p = none → Q (.ref p) (upd H p (.tup ys))) :
    ∃ W Fin Out, W [] H2 ∧ GStep J g te σg W Fin Out ∧ RcT Q W Fin Out := by
  refine tup_by (fun ys H => ys.length ≤ n ∧ Pv ys H) ⟨Nat.zero_le _, h0⟩ fun ys H hW => ?_
  obtain ⟨hl, hp⟩ := hW
  have q := hG ys H hl hp
  by_cases hlt : ys.length < n
  · exact .inr ⟨w.goes _ H hlt q, fun x H' y => hs ys x H H' hlt hp (w.yields _ H x H' hlt q y)⟩
  · have e : ys.length = n := by omega
    exact .inl ⟨by rw [e]; exact w.stops H q, fun p np => hd ys H p e hp np⟩
theorem all_it (w : Walk J n G Y) (hn : n < sizeLine) {g : TG} {te : TE} {σg : L2.St} {Q : VK} {H2 : Hp} (Pv : Nat → Hp → Prop) (h0 : Pv 0 H2) (hG : ∀ i H, i ≤ n → Pv i H → G H)
    (hs : ∀ i x H H', i < n → Pv i H → Y i H x H' → g x σg H' fun σ2 H3 => Le σg σ2 ∧ te σ2 H3 fun y H4 => i < sizeLine ∧ ∃ b, y = .bl b ∧ if b = true then (i + 1 ≤ n ∧ Pv (i + 1) H4) else Q (.bl false) H4) (hd : ∀ H, Pv n H → Q (.bl true) H) :
    ∃ W Fin Out, W [] H2 ∧ GStep J g te σg W Fin Out ∧ RcA Q W Fin Out := by
  refine all_by (fun i H => i ≤ n ∧ Pv i H) ⟨Nat.zero_le _, h0⟩ fun ys H hW => ?_
  obtain ⟨hl, hp⟩ := hW
  have q := hG _ H hl hp
  by_cases hlt : ys.length < n
  · exact .inr ⟨w.goes _ H hlt q, fun x H' y => hs _ x H H' hlt hp (w.yields _ H x H' hlt q y)⟩
  · have e : ys.length = n := by omega
    exact .inl ⟨by rw [e]; exact w.stops H q, hd H (by rw [← e]; exact hp)⟩
end
/-! ### least places -/
def ov : Option Int → V
  | none => .non
  | some n => .int n
theorem ov_inj {a b : Option Int} (h : ov a = ov b) : a = b := by
  cases a <;> cases b <;> simp_all [ov]
def IsL (last : Bool) (row : List (Option Int)) (m k : Nat) : Prop := k < m ∧ ∃ x, row[k]? = some (some x) ∧ ∀ (j : Nat) (y : Int), j < m → row[j]? = some (some y) → x ≤ y ∧ (y = x → if last = true then j ≤ k else k ≤ j)
def LeU (last : Bool) (row : List (Option Int)) (m : Nat) (v : V) : Prop := (v = .non ∧ ∀ (j : Nat) (y : Int), j < m → row[j]? = some (some y) → False) ∨ ∃ k : Nat, v = .int k ∧ IsL last row m k
theorem LeU.uniq {last : Bool} {row : List (Option Int)} {m : Nat} {v v' : V} (h : LeU last row m v) (h' : LeU last row m v') : v = v' := by
  rcases h with ⟨rfl, h⟩ | ⟨k, rfl, hk, x, hx, hh⟩
  · rcases h' with ⟨rfl, h'⟩ | ⟨k', rfl, hk', x', hx', hh'⟩
    · rfl
    · exact (h k' x' hk' hx').elim
  · rcases h' with ⟨rfl, h'⟩ | ⟨k', rfl, hk', x', hx', hh'⟩
    · exact (h' k x hk hx).elim
    · have a1 := hh k' x' hk' hx'
      have a2 := hh' k x hk hx
      have e : x' = x := by omega
      have b1 := a1.2 e
      have b2 := a2.2 e.symm
      have : k = k' := by
        cases last
        · simp at b1 b2; omega
        · simp at b1 b2; omega
      rw [this]
theorem LeU.zero {last : Bool} {row : List (Option Int)} : LeU last row 0 .non := .inl ⟨rfl, fun j y h => absurd h (Nat.not_lt_zero _)⟩
theorem LeU.skip {last : Bool} {row : List (Option Int)} {m : Nat} {v : V} (h : LeU last row m v) (hn : row[m]? = some none) : LeU last row (m + 1) v := by
  rcases h with ⟨rfl, h⟩ | ⟨k, rfl, hk, x, hx, hh⟩
  · refine .inl ⟨rfl, fun j y hj hy => ?_⟩
    by_cases e : j = m
    · subst e; rw [hn] at hy; cases hy
    · exact h j y (by omega) hy
  · refine .inr ⟨k, rfl, by omega, x, hx, fun j y hj hy => ?_⟩
    by_cases e : j = m
    · subst e; rw [hn] at hy; cases hy
    · exact hh j y (by omega) hy
theorem LeU.first {last : Bool} {row : List (Option Int)} {m : Nat} {n : Int} (h : LeU last row m .non) (hn : row[m]? = some (some n)) : LeU last row (m + 1) (.int m) := by
  rcases h with ⟨_, h⟩ | ⟨k, e, _⟩
  · refine .inr ⟨m, rfl, by omega, n, hn, fun j y hj hy => ?_⟩
    by_cases e : j = m
    · subst e; rw [hn] at hy; cases hy
      exact ⟨Int.le_refl _, fun _ => by cases last <;> simp⟩
    · exact (h j y (by omega) hy).elim
  · cases e
theorem LeU.take {last : Bool} {row : List (Option Int)} {m k : Nat} {n x : Int} (h : LeU last row m (.int k)) (hx : row[k]? = some (some x)) (hn : row[m]? = some (some n)) (hc : n < x ∨ (n = x ∧ last = true)) : LeU last row (m + 1) (.int m) := by
  rcases h with ⟨e, _⟩ | ⟨k', e, hk, x', hx', hh⟩
  · cases e
  · have ek : k = k' := by have := V.int.inj e; omega
    subst ek
    rw [hx] at hx'
    cases hx'
    refine .inr ⟨m, rfl, by omega, n, hn, fun j y hj hy => ?_⟩
    by_cases ej : j = m
    · subst ej; rw [hn] at hy; cases hy
      exact ⟨Int.le_refl _, fun _ => by cases last <;> simp⟩
    · have a := hh j y (by omega) hy
      refine ⟨by omega, fun e2 => ?_⟩
      rcases hc with hc | ⟨hc, hl⟩
      · omega
      · rw [hl]; simp; omega
theorem LeU.stay {last : Bool} {row : List (Option Int)} {m k : Nat} {n x : Int} (h : LeU last row m (.int k)) (hx : row[k]? = some (some x)) (hn : row[m]? = some (some n)) (hc : ¬ (n < x ∨ (n = x ∧ last = true))) : LeU last row (m + 1) (.int k) := by
  rcases h with ⟨e, _⟩ | ⟨k', e, hk, x', hx', hh⟩
  · cases e
  · have ek : k = k' := by have := V.int.inj e; omega
    subst ek
    rw [hx] at hx'
    cases hx'
    refine .inr ⟨k, rfl, by omega, x, hx, fun j y hj hy => ?_⟩
    by_cases ej : j = m
    · subst ej; rw [hn] at hy; cases hy
      refine ⟨by omega, fun e2 => ?_⟩
      cases last
      · simp; omega
      · exact (hc (.inr ⟨e2, rfl⟩)).elim
    · exact hh j y (by omega) hy
theorem LeU.at {last : Bool} {row : List (Option Int)} {m : Nat} {v : V} (h : LeU last row m v) (hv : v ≠ .non) : ∃ (k : Nat) (x : Int), v = .int k ∧ k < m ∧ row[k]? = some (some x) := by
  rcases h with ⟨e, _⟩ | ⟨k, e, hk, x, hx, _⟩
  · exact (hv e).elim
  · exact ⟨k, x, e, hk, hx⟩
/-! ### tables -/
def TabAt (H : Hp) (a : Addr) (rows : List (List (Option Int))) : Prop := ∃ ps : List Addr, H a = some (.tup (ps.map V.ref)) ∧ ps.length = rows.length ∧ ∀ (i : Nat) (b : Addr) (row : List (Option Int)), ps[i]? = some b → rows[i]? = some row → H b = some (.tup (row.map ov))
/-- no tuple stands at these -/
def NT (M : List Addr) (H : Hp) : Prop := ∀ m ∈ M, ∀ xs, H m ≠ some (.tup xs)
theorem NT.nil {H : Hp} : NT [] H := fun m hm => by cases hm
theorem NT.ni {M : List Addr} {H : Hp} {a : Addr} {xs : List V} (h : NT M H) (e : H a = some (.tup xs)) : a ∉ M := fun z => h a z xs e
theorem TabAt.kp {H H' : Hp} {a : Addr} {rows : List (List (Option Int))} {M : List Addr} (h : TabAt H a rows) (k : Kp M H H') (n : NT M H) : TabAt H' a rows := by
  obtain ⟨ps, h1, h2, h3⟩ := h
  exact ⟨ps, k _ _ (n.ni h1) h1, h2, fun i b row e1 e2 => k _ _ (n.ni (h3 i b row e1 e2)) (h3 i b row e1 e2)⟩
theorem NT.tab {H : Hp} {P : Addr} (h : TabG H P) : NT [P] H := fun m hm xs z => by
  obtain ⟨ps, hp, _⟩ := h
  rw [List.mem_singleton.mp hm, hp] at z
  cases z
theorem NT.dk {H : Hp} {d c : Addr} (h : Dk d c H) : NT [d, c] H := fun m hm xs z => by
  obtain ⟨_, _, _, h1, h2, _⟩ := h
  rcases List.mem_cons.mp hm with e | e
  · rw [e, h1] at z; cases z
  · rw [List.mem_singleton.mp e, h2] at z; cases z
theorem TabG.kp {H H' : Hp} {P : Addr} {M : List Addr} (h : TabG H P) (k : Kp M H H') (hm : P ∉ M) : TabG H' P := by
  obtain ⟨ps, hp, ht⟩ := h
  exact ⟨ps, k _ _ hm hp, ht⟩
theorem Tabbed.kp {P : Addr} {H H' : Hp} (t : Tabbed P H H') : Kp [P] H H' := fun b o hb e => by
  rw [t.2 b (fun z => hb (by rw [z]; exact List.mem_singleton.mpr rfl))]
  exact e
theorem TabG.nd {H : Hp} {P d c : Addr} (h : TabG H P) (hd : Dk d c H) : P ∉ [d, c] := fun z => by
  obtain ⟨ps, hp, _⟩ := h
  obtain ⟨_, _, _, h1, h2, _⟩ := hd
  rcases List.mem_cons.mp z with e | e
  · rw [e, h1] at hp; cases hp
  · rw [List.mem_singleton.mp e, h2] at hp; cases hp
end BT

namespace BT
open PySem PySem.Spec PyProof.Rows L2 GenW
/-- a comprehension: what stands in its list behind each turn; what it leaves alone is M -/
theorem lc_acc {J : It} {n : Nat} {G : Hp → Prop} {Y : Nat → Hp → V → Hp → Prop} (w : Walk J n G Y) {g : TG} {tt : TT} {te : TE} {vs : List Nat} {σ : L2.St} {H1 : Hp} {D : Addr} {Qd : Hp → Prop} (M : List Addr) (Iv : Hp → Prop) (acc : Nat → List V → Prop) (nD : H1 D = none) (hM : D ∉ M) (hn : n < sizeLine)
    (hacc : ∀ i xs, acc i xs → xs.length ≤ i) (h0 : acc 0 []) (i0 : Iv (upd H1 D (.lst []))) (hG : ∀ H, Iv H → Kp M H1 H → G H)
    (hs : ∀ i x H H' xs, i < n → acc i xs → Iv H → H D = some (.lst xs) → Kp M H1 H → Y i H x H' → g x (wipe σ vs) H' fun σ2 H2 => wipe σ2 vs = wipe σ vs ∧ tt σ2 H2 fun b H3 =>
      if b = true then te σ2 H3 fun y H4 => H4 D = some (.lst xs) ∧ acc (i + 1) (xs ++ [y]) ∧ (∀ o, Iv (upd H4 D o)) ∧ Kp M H1 H4 else (H3 D = some (.lst xs) ∧ acc (i + 1) xs ∧ Iv H3 ∧ Kp M H1 H3))
    (hte : ∀ σ H (R R' : VK), (∀ v H', R v H' → R' v H') → te σ H R → te σ H R') (htt : ∀ σ H (R R' : Bool → Hp → Prop), (∀ v H', R v H' → R' v H') → tt σ H R → tt σ H R') (hg : ∀ x σ H (R R' : L2.St → Hp → Prop), (∀ a b, R a b → R' a b) → g x σ H R → g x σ H R')
    (hd : ∀ H xs, acc n xs → Iv H → H D = some (.lst xs) → Kp M H1 H → Qd H) :
    ∃ W : Nat → Nat → Hp → Prop, (∃ m, W 0 m (upd H1 D (.lst []))) ∧ ∀ i m H, W i m H →
      (J.stop i H ∧ Qd H) ∨ (J.go i H ∧ ∃ Nx : Hp → Prop, (∀ H', Nx H' → ∃ m', m' < m ∧ W (i + 1) m' H') ∧ ∀ x H', J.yld i H x H' → g x (wipe σ vs) H' fun σ2 H2 => wipe σ2 vs = wipe σ vs ∧ tt σ2 H2 fun b H3 =>
        if b = true then te σ2 H3 fun y H4 => ∃ acc, H4 D = some (.lst acc) ∧ acc.length < sizeLine ∧ Nx (upd H4 D (.lst (acc ++ [y]))) else Nx H3) := by
  refine lc_it w (fun i H => ∃ xs, acc i xs ∧ Iv H ∧ H D = some (.lst xs) ∧ Kp M H1 H) ⟨[], h0, i0, upd_same, Kp.new nD⟩ (fun i H hi hp => ?_) (fun i x H H' hi hp hy => ?_) fun H hp => ?_
  · obtain ⟨xs, _, q1, _, q2⟩ := hp
    exact hG H q1 q2
  · obtain ⟨xs, p1, p2, p3, p4⟩ := hp
    refine hg _ _ _ _ _ (fun σ2 H2 z => ⟨z.1, htt _ _ _ _ (fun b H3 z2 => ?_) z.2⟩) (hs i x H H' xs hi p1 p2 p3 p4 hy)
    cases b with
    | true =>
      refine iteT (hte _ _ _ _ (fun y H4 z3 => ?_) ((if_pos rfl).mp z2))
      exact ⟨xs, z3.1, by have := hacc i xs p1; omega, xs ++ [y], z3.2.1, z3.2.2.1 _, upd_same, z3.2.2.2.mut nD⟩
    | false =>
      have z3 := (if_neg Bool.false_ne_true).mp z2
      exact iteF ⟨xs, z3.2.1, z3.2.2.1, z3.1, z3.2.2.2⟩
  · obtain ⟨xs, p1, p2, p3, p4⟩ := hp
    exact hd H xs p1 p2 p3 p4
/-! ### lists of places -/
theorem range_up (n : Nat) : (List.range n).Pairwise (· < ·) := List.pairwise_lt_range
theorem filt_mem {n : Nat} {p : Nat → Bool} {k : Nat} : k ∈ (List.range n).filter p ↔ k < n ∧ p k = true := by
  rw [List.mem_filter, List.mem_range]
theorem filt_first {n : Nat} {p : Nat → Bool} {k : Nat} {t : List Nat} (h : (List.range n).filter p = k :: t) : k < n ∧ p k = true ∧ ∀ j, j < n → p j = true → k ≤ j := by
  have hp : ((List.range n).filter p).Pairwise (· < ·) := (range_up n).sublist List.filter_sublist
  have hk : k ∈ (List.range n).filter p := by rw [h]; exact List.mem_cons_self
  refine ⟨(filt_mem.mp hk).1, (filt_mem.mp hk).2, fun j hj hpj => ?_⟩
  have hm : j ∈ (List.range n).filter p := filt_mem.mpr ⟨hj, hpj⟩
  rw [h] at hm hp
  rcases List.mem_cons.mp hm with e | e
  · omega
  · exact Nat.le_of_lt ((List.pairwise_cons.mp hp).1 j e)
theorem filt_last {n : Nat} {p : Nat → Bool} {k : Nat} {t : List Nat} (h : (List.range n).filter p = t ++ [k]) : k < n ∧ p k = true ∧ ∀ j, j < n → p j = true → j ≤ k := by
  have hp : ((List.range n).filter p).Pairwise (· < ·) := (range_up n).sublist List.filter_sublist
  have hk : k ∈ (List.range n).filter p := by rw [h]; simp
  refine ⟨(filt_mem.mp hk).1, (filt_mem.mp hk).2, fun j hj hpj => ?_⟩
  have hm : j ∈ (List.range n).filter p := filt_mem.mpr ⟨hj, hpj⟩
  rw [h] at hm hp
  rcases List.mem_append.mp hm with e | e
  · exact Nat.le_of_lt ((List.pairwise_append.mp hp).2.2 j e k (by simp))
  · rw [List.mem_singleton.mp e]
    exact Nat.le_refl _
theorem filt_succ {n : Nat} {p : Nat → Bool} : (List.range (n + 1)).filter p = (List.range n).filter p ++ (if p n = true then [n] else []) := by
  rw [List.range_succ, List.filter_append]
  cases h : p n <;> simp [h]
theorem filt_len (n : Nat) (p : Nat → Bool) : ((List.range n).filter p).length ≤ n := by
  have h := List.length_filter_le p (List.range n)
  rw [List.length_range] at h
  exact h
def isNum (row : List (Option Int)) (k : Nat) : Bool := match row[k]? with
  | some (some _) => true
  | _ => false
theorem isNum_of {row : List (Option Int)} {k : Nat} {x : Int} (h : row[k]? = some (some x)) : isNum row k = true := by unfold isNum; rw [h]
theorem isNum_to {row : List (Option Int)} {k : Nat} (h : isNum row k = true) : ∃ x, row[k]? = some (some x) := by
  unfold isNum at h
  split at h
  · exact ⟨_, by assumption⟩
  · cases h
theorem isNum_no {row : List (Option Int)} {k : Nat} (h : row[k]? = some none) : isNum row k = false := by unfold isNum; rw [h]
abbrev ivs (l : List Nat) : List V := l.map fun (k : Nat) => V.int (k : Int)
theorem ivs_ints (l : List Nat) : ivs l = (l.map fun (k : Nat) => (k : Int)).map V.int := by
  simp [ivs]
end BT

namespace BT
open PySem PySem.Spec PyProof.Rows L2 GenW
/-! the same rules, the written part named (a comprehension's reading may not name its block) -/
theorem ixTK {X : Cx} (K : PySem.W.Frag) (h : X.K = K := by rfl) : IxR X (rIxT K) := by subst h; exact ix_tup
theorem ixLK {X : Cx} (K : PySem.W.Frag) (h : X.K = K := by rfl) : IxR X (rIxL K) := by subst h; exact ix_list
theorem lenK {X : Cx} (K : PySem.W.Frag) (h : X.K = K := by rfl) : CallR X (.builtin "len") (fun xs H Q => ∃ p ys, xs = [.ref p] ∧ (SqL K H p ys ∨ SqT K H p ys) ∧ Q (.int ys.length) H) := by subst h; exact call_len_seq
theorem tupK {X : Cx} (K : PySem.W.Frag) (h : X.K = K := by rfl) : CallR X (.type "tuple") (fun xs H Q => ∃ p ys, xs = [.ref p] ∧ ((SqL K H p ys ∧ ∀ l, H l = none → Q (.ref l) (upd H l (.tup ys))) ∨ (SqT K H p ys ∧ Q (.ref p) H))) := by subst h; exact call_tuple_of
theorem lisK {X : Cx} (K : PySem.W.Frag) (h : X.K = K := by rfl) : CallR X (.type "list") (fun xs H Q => ∃ p ys, xs = [.ref p] ∧ (SqL K H p ys ∨ SqT K H p ys) ∧ ∀ l, H l = none → Q (.ref l) (upd H l (.lst ys))) := by subst h; exact call_list_of
theorem eqDK {X : Cx} (K : PySem.W.Frag) (hu : X.A.units + 64 < cLine) (h : X.K = K := by rfl) : OpR X (compareOp .Eq) (rEqD K) := by subst h; exact op_eqD hu
theorem neDK {X : Cx} (K : PySem.W.Frag) (hu : X.A.units + 64 < cLine) (h : X.K = K := by rfl) : OpR X (compareOp .NotEq) (rNeD K) := by subst h; exact op_neD hu
theorem slLK {X : Cx} (K : PySem.W.Frag) (h : X.K = K := by rfl) : SlR X (rSlL K) := by subst h; exact sl_list
theorem minK {X : Cx} (K : PySem.W.Frag) (hc : X.calm = true) (h : X.K = K := by rfl) : CallR X (.builtin "min") (rMin K) := by subst h; exact cr_min hc
theorem allK {X : Cx} (K : PySem.W.Frag) (hc : X.calm = true) (h : X.K = K := by rfl) : CallR X (.builtin "all") (rAll K) := by subst h; exact cr_all hc
theorem isiK {X : Cx} (K : PySem.W.Frag) (h : X.K = K := by rfl) : CallR X (.builtin "isinstance") (rIsi K) := by subst h; exact call_isi
theorem piLK {X : Cx} {tg l : Expr} {tl : TE} (K : PySem.W.Frag) (hl : PE X l tl) (h : X.K = K := by rfl) : PI X tg l (iList K tl) := by subst h; exact pi_list hl
theorem piTK {X : Cx} {tg l : Expr} {tl : TE} (K : PySem.W.Frag) (hl : PE X l tl) (h : X.K = K := by rfl) : PI X tg l (iTup K tl) := by subst h; exact pi_tup hl
end BT

namespace BT
open PySem PySem.Spec PyProof.Rows L2 GenW
theorem cut_to (xs : List V) (n : Nat) : cutV xs none (some (n : Int)) = xs.take n := by
  unfold cutV
  rw [show HT.sIx xs.length 0 none = 0 from HT.sIx_none xs.length 0, show HT.sIx xs.length xs.length (some (n : Int)) = min n xs.length from HT.sIx_nat xs.length _ n]
  show (xs.drop 0).take (min n xs.length - 0) = xs.take n
  rw [List.drop_zero, Nat.sub_zero]
  rcases Nat.le_total n xs.length with h | h
  · rw [Nat.min_eq_left h]
  · rw [Nat.min_eq_right h, List.take_length, List.take_of_length_le h]
theorem cut_from (xs : List V) (n : Nat) (hn : n ≤ xs.length) : cutV xs (some (n : Int)) none = xs.drop n := by
  unfold cutV
  rw [show HT.sIx xs.length 0 (some (n : Int)) = min n xs.length from HT.sIx_nat xs.length 0 n, show HT.sIx xs.length xs.length none = xs.length from HT.sIx_none xs.length _, Nat.min_eq_left hn]
  exact List.take_of_length_le (by rw [List.length_drop]; exact Nat.le_refl _)
theorem at4 {a b c e s : Int} (h0 : 0 ≤ s) (h1 : s < 4) : ∃ z : Int, atI [V.int a, V.int b, V.int c, V.int e] s = some (V.int z) := by
  rcases (show s = 0 ∨ s = 1 ∨ s = 2 ∨ s = 3 by omega) with rfl | rfl | rfl | rfl
  · exact ⟨a, atI_nat (j := 0) rfl⟩
  · exact ⟨b, atI_nat (j := 1) rfl⟩
  · exact ⟨c, atI_nat (j := 2) rfl⟩
  · exact ⟨e, atI_nat (j := 3) rfl⟩
theorem Dk.ni {d c p : Addr} {H : Hp} (h : Dk d c H) (np : H p = none) : p ∉ [d, c] := fun z => by
  obtain ⟨_, _, _, h1, h2, _⟩ := h
  rcases List.mem_cons.mp z with e | e
  · rw [e, h1] at np; cases np
  · rw [List.mem_singleton.mp e, h2] at np; cases np
theorem Dk.new {d c p : Addr} {H : Hp} {o : HO} (h : Dk d c H) (np : H p = none) : Dk d c (upd H p o) := h.kp (M := []) (Kp.new np) (by simp) (by simp)
theorem Dk.up {d c p : Addr} {H : Hp} {o : HO} (h : Dk d c H) (np : p ∉ [d, c]) : Dk d c (upd H p o) := by
  obtain ⟨cs, sd, a, h1, h2, h3⟩ := h
  refine ⟨cs, sd, a, ?_, ?_, h3⟩
  · rw [upd_ne (fun z => np (by rw [← z]; exact List.mem_cons_self))]; exact h1
  · rw [upd_ne (fun z => np (by rw [← z]; exact List.mem_cons_of_mem _ (List.mem_singleton.mpr rfl)))]; exact h2
theorem p6 : (10 : Int) ^ ((6 : Int).toNat) = 1000000 := by decide
end BT

namespace BT
open PySem PySem.Spec PyProof.Rows L2 GenW
abbrev Rows := List (List (Option Int))
def cell (rows : Rows) (i k : Nat) : Option Int := ((rows[i]?).bind fun r => r[k]?).join
/-- no two rows and two columns are crooked there -/
def Okq (rows : Rows) (i j k l : Nat) : Prop := ∀ a b, cell rows i l = some a → cell rows j k = some b → ∃ x y, cell rows i k = some x ∧ cell rows j l = some y ∧ x + y ≤ a + b
def Bend (rows : Rows) : Prop := ∀ i j k l : Nat, i < j → k < l → Okq rows i j k l
theorem cell_of {rows : Rows} {i k : Nat} {r : List (Option Int)} {v : Option Int} (h1 : rows[i]? = some r) (h2 : r[k]? = some v) : cell rows i k = v := by
  unfold cell
  rw [h1]
  show (r[k]?).join = v
  rw [h2]
  rfl
theorem cell_some {rows : Rows} {i k : Nat} {a : Int} (h : cell rows i k = some a) : ∃ r, rows[i]? = some r ∧ r[k]? = some (some a) := by
  unfold cell at h
  cases e : rows[i]? with
  | none => rw [e] at h; cases h
  | some r =>
    rw [e] at h
    refine ⟨r, rfl, ?_⟩
    have h' : (r[k]?).join = some a := h
    cases e2 : r[k]? with
    | none => rw [e2] at h'; cases h'
    | some v => rw [e2] at h'; cases h'; rfl
/-- rows of one width, all numbers, neighbours alone -/
def Fullw (rows : Rows) (w : Nat) : Prop := ∀ r ∈ rows, r.length = w ∧ ∀ k, k < w → ∃ x, r[k]? = some (some x)
def Nb (r r' : List (Option Int)) : Prop := ∀ (k : Nat) (a b a' b' : Int), r[k]? = some (some a) → r[k + 1]? = some (some b) → r'[k]? = some (some a') → r'[k + 1]? = some (some b') → b' + a ≤ b + a'
def Nbs (rows : Rows) : Prop := ∀ (i : Nat) r r', rows[i]? = some r → rows[i + 1]? = some r' → Nb r r'
theorem nb_far {r r' : List (Option Int)} {w : Nat} (h : Nb r r') (f : ∀ k, k < w → ∃ x, r[k]? = some (some x)) (f' : ∀ k, k < w → ∃ x, r'[k]? = some (some x)) :
    ∀ (m k : Nat) (a b a' b' : Int), k + m < w → r[k]? = some (some a) → r[k + m]? = some (some b) → r'[k]? = some (some a') → r'[k + m]? = some (some b') → b' + a ≤ b + a'
  | 0, k, a, b, a', b', _, h1, h2, h3, h4 => by
    rw [Nat.add_zero] at h2 h4
    rw [h1] at h2
    rw [h3] at h4
    cases h2
    cases h4
    omega
  | m + 1, k, a, b, a', b', hk, h1, h2, h3, h4 => by
    obtain ⟨x, hx⟩ := f (k + m) (by omega)
    obtain ⟨x', hx'⟩ := f' (k + m) (by omega)
    have e1 := nb_far h f f' m k a x a' x' (by omega) h1 hx h3 hx'
    have e2 := h (k + m) x b x' b' hx (by rw [Nat.add_assoc]; exact h2) hx' (by rw [Nat.add_assoc]; exact h4)
    omega
theorem full_at {rows : Rows} {w i : Nat} {r : List (Option Int)} (F : Fullw rows w) (h : rows[i]? = some r) : r.length = w ∧ ∀ k, k < w → ∃ x, r[k]? = some (some x) := F r (List.mem_of_getElem? h)
theorem bend_rows {rows : Rows} {w : Nat} (F : Fullw rows w) (N : Nbs rows) : ∀ (m i : Nat) (r r' : List (Option Int)), rows[i]? = some r → rows[i + m]? = some r' →
    ∀ (k n : Nat) (a b a' b' : Int), k + n < w → r[k]? = some (some a) → r[k + n]? = some (some b) → r'[k]? = some (some a') → r'[k + n]? = some (some b') → b' + a ≤ b + a'
  | 0, i, r, r', h1, h2, k, n, a, b, a', b', _, e1, e2, e3, e4 => by
    rw [Nat.add_zero, h1] at h2
    cases h2
    rw [e1] at e3
    rw [e2] at e4
    cases e3
    cases e4
    omega
  | m + 1, i, r, r', h1, h2, k, n, a, b, a', b', hk, e1, e2, e3, e4 => by
    have hl : i + m < rows.length := by
      have := (List.getElem?_eq_some_iff.mp h2).1
      omega
    have hm := List.getElem?_eq_getElem hl
    obtain ⟨x, hx⟩ := (full_at F hm).2 k (by omega)
    obtain ⟨y, hy⟩ := (full_at F hm).2 (k + n) hk
    have z1 := bend_rows F N m i r _ h1 hm k n a b x y hk e1 e2 hx hy
    have z2 := nb_far (N (i + m) _ r' hm (by rw [Nat.add_assoc]; exact h2)) (full_at F hm).2 (full_at F h2).2 n k x y a' b' hk hx hy e3 e4
    omega
/-- what is picked by places that never fall bends -/
theorem bend_pick {rows out : Rows} {w : Nat} (F : Fullw rows w) (N : Nbs rows) (f : Nat → Nat) (hf : ∀ i j, i < j → f i ≤ f j) (hp : ∀ i r, out[i]? = some r → rows[f i]? = some r) : Bend out := by
  intro i j k l hij hkl a b ha hb
  obtain ⟨r, h1, h2⟩ := cell_some ha
  obtain ⟨r', h3, h4⟩ := cell_some hb
  have q1 := hp i r h1
  have q2 := hp j r' h3
  have hle := hf i j hij
  have hlw : l < w := by
    have := (List.getElem?_eq_some_iff.mp h2).1
    rw [(full_at F q1).1] at this
    exact this
  obtain ⟨x, hx⟩ := (full_at F q1).2 k (by omega)
  obtain ⟨y, hy⟩ := (full_at F q2).2 l hlw
  refine ⟨x, y, cell_of h1 hx, cell_of h3 hy, ?_⟩
  obtain ⟨m, hm⟩ : ∃ m, f j = f i + m := ⟨f j - f i, by omega⟩
  obtain ⟨n, hn⟩ : ∃ n, l = k + n := ⟨l - k, by omega⟩
  subst hn
  have := bend_rows F N m (f i) r r' q1 (by rw [← hm]; exact q2) k n x a b y hlw hx h2 h4 hy
  omega
/-- stretches that step right are left of what bends -/
theorem bend_cut {rows out : Rows} (h : Bend rows) (fl : Nat → Nat × Nat) (h1 : ∀ i j, i < j → j < out.length → (fl i).1 ≤ (fl j).1) (h2 : ∀ i j, i < j → j < out.length → (fl i).2 ≤ (fl j).2)
    (hc : ∀ i k, i < out.length → cell out i k = if (fl i).1 ≤ k ∧ k ≤ (fl i).2 then cell rows i k else none) : Bend out := by
  intro i j k l hij hkl a b ha hb
  obtain ⟨r', e3, _⟩ := cell_some hb
  have hj := (List.getElem?_eq_some_iff.mp e3).1
  have a1 := h1 i j hij hj
  have a2 := h2 i j hij hj
  rw [hc i l (by omega)] at ha
  rw [hc j k hj] at hb
  by_cases c1 : (fl i).1 ≤ l ∧ l ≤ (fl i).2
  · by_cases c2 : (fl j).1 ≤ k ∧ k ≤ (fl j).2
    · rw [if_pos c1] at ha
      rw [if_pos c2] at hb
      obtain ⟨x, y, hx, hy, hxy⟩ := h i j k l hij hkl a b ha hb
      refine ⟨x, y, ?_, ?_, hxy⟩
      · rw [hc i k (by omega), if_pos (by omega)]
        exact hx
      · rw [hc j l hj, if_pos (by omega)]
        exact hy
    · rw [if_neg c2] at hb; cases hb
  · rw [if_neg c1] at ha; cases ha
/-- a row without numbers put in -/
theorem bend_insert {rows : Rows} (h : Bend rows) (n w : Nat) (hn : n ≤ rows.length) : Bend (rows.take n ++ List.replicate w none :: rows.drop n) := by
  have key : ∀ i k a, cell (rows.take n ++ List.replicate w none :: rows.drop n) i k = some a → (i < n ∧ cell rows i k = some a) ∨ (n < i ∧ cell rows (i - 1) k = some a) := fun i k a ha => by
    obtain ⟨r, e1, e2⟩ := cell_some ha
    have ht : (rows.take n).length = n := by rw [List.length_take]; omega
    rcases Nat.lt_trichotomy i n with c | c | c
    · rw [List.getElem?_append_left (by omega), List.getElem?_take_of_lt c] at e1
      exact .inl ⟨c, cell_of e1 e2⟩
    · subst c
      rw [List.getElem?_append_right (by omega), ht, Nat.sub_self] at e1
      cases e1
      rw [List.getElem?_replicate] at e2
      split at e2 <;> cases e2
    · rw [List.getElem?_append_right (by omega), ht] at e1
      obtain ⟨m, rfl⟩ : ∃ m, i = n + m + 1 := ⟨i - n - 1, by omega⟩
      rw [show n + m + 1 - n = m + 1 by omega, List.getElem?_cons_succ, List.getElem?_drop] at e1
      exact .inr ⟨by omega, by rw [show n + m + 1 - 1 = n + m by omega]; exact cell_of e1 e2⟩
  have low : ∀ i k, i < n → cell (rows.take n ++ List.replicate w none :: rows.drop n) i k = cell rows i k := fun i k c => by
    have ht : (rows.take n).length = n := by rw [List.length_take]; omega
    unfold cell
    rw [List.getElem?_append_left (by omega), List.getElem?_take_of_lt c]
  have high : ∀ i k, n < i → cell (rows.take n ++ List.replicate w none :: rows.drop n) i k = cell rows (i - 1) k := fun i k c => by
    have ht : (rows.take n).length = n := by rw [List.length_take]; omega
    obtain ⟨m, rfl⟩ : ∃ m, i = n + m + 1 := ⟨i - n - 1, by omega⟩
    unfold cell
    rw [List.getElem?_append_right (by omega), ht, show n + m + 1 - n = m + 1 by omega, List.getElem?_cons_succ, List.getElem?_drop, show n + m + 1 - 1 = n + m by omega]
  intro i j k l hij hkl a b ha hb
  rcases key i l a ha with ⟨c1, z1⟩ | ⟨c1, z1⟩ <;> rcases key j k b hb with ⟨c2, z2⟩ | ⟨c2, z2⟩
  · obtain ⟨x, y, hx, hy, hxy⟩ := h i j k l hij hkl a b z1 z2
    exact ⟨x, y, by rw [low i k c1]; exact hx, by rw [low j l c2]; exact hy, hxy⟩
  · obtain ⟨x, y, hx, hy, hxy⟩ := h i (j - 1) k l (by omega) hkl a b z1 z2
    exact ⟨x, y, by rw [low i k c1]; exact hx, by rw [high j l c2]; exact hy, hxy⟩
  · omega
  · obtain ⟨x, y, hx, hy, hxy⟩ := h (i - 1) (j - 1) k l (by omega) hkl a b z1 z2
    exact ⟨x, y, by rw [high i k c1]; exact hx, by rw [high j l c2]; exact hy, hxy⟩
/-! ### least places of what bends -/
theorem bend_step {rows : Rows} {last : Bool} (h : Bend rows) {i j : Nat} {r r' : List (Option Int)} {p p' : Nat} (hij : i < j) (h1 : rows[i]? = some r) (h2 : rows[j]? = some r') (l1 : LeU last r r.length (.int p)) (l2 : LeU last r' r'.length (.int p')) : p ≤ p' := by
  rcases l1 with ⟨e, _⟩ | ⟨q, e, hq, x, hx, hh⟩
  · cases e
  rcases l2 with ⟨e', _⟩ | ⟨q', e', hq', x', hx', hh'⟩
  · cases e'
  have ep : p = q := by have := V.int.inj e; omega
  have ep' : p' = q' := by have := V.int.inj e'; omega
  subst ep ep'
  rcases Nat.lt_or_ge p' p with c | c
  · exfalso
    obtain ⟨y, z, hy, hz, hyz⟩ := h i j p' p hij c x x' (cell_of h1 hx) (cell_of h2 hx')
    obtain ⟨s1, t1, u1⟩ := cell_some hy
    obtain ⟨s2, t2, u2⟩ := cell_some hz
    rw [h1] at t1
    rw [h2] at t2
    cases t1
    cases t2
    have g1 := hh p' y (List.getElem?_eq_some_iff.mp u1).1 u1
    have g2 := hh' p z (List.getElem?_eq_some_iff.mp u2).1 u2
    have ey : y = x := by omega
    have ez : z = x' := by omega
    cases last
    · have := g1.2 ey
      simp at this
      omega
    · have := g2.2 ez
      simp at this
      omega
  · exact c
theorem first_last {r : List (Option Int)} {p p' : Nat} (l1 : LeU false r r.length (.int p)) (l2 : LeU true r r.length (.int p')) : p ≤ p' := by
  rcases l1 with ⟨e, _⟩ | ⟨q, e, hq, x, hx, hh⟩
  · cases e
  rcases l2 with ⟨e', _⟩ | ⟨q', e', hq', x', hx', hh'⟩
  · cases e'
  have ep : p = q := by have := V.int.inj e; omega
  have ep' : p' = q' := by have := V.int.inj e'; omega
  subst ep ep'
  have g1 := hh p' x' hq' hx'
  have g2 := hh' p x hq hx
  have := g1.2 (by omega)
  simpa using this
theorem none_both {r : List (Option Int)} {v v' : V} {a b : Bool} (l1 : LeU a r r.length v) (l2 : LeU b r r.length v') : (v = .non ↔ v' = .non) := by
  rcases l1 with ⟨rfl, h⟩ | ⟨k, rfl, hk, x, hx, _⟩ <;> rcases l2 with ⟨rfl, h'⟩ | ⟨k', rfl, hk', x', hx', _⟩
  · simp
  · exact (h k' x' hk' hx').elim
  · exact (h' k x hk hx).elim
  · simp
end BT

namespace BT
open PySem PySem.Spec PyProof.Rows L2 GenW
theorem at_i {xs : List V} {z : Int} {n : Nat} {v : V} (e : z = n) (h : xs[n]? = some v) : atI xs z = some v := by
  subst e
  exact atI_nat h
theorem at_m1 {xs : List V} {n : Nat} {v : V} (e : xs.length = n + 1) (h : xs[n]? = some v) : atI xs (-1) = some v := by
  have hne : xs ≠ [] := fun z => by rw [z] at e; cases e
  have hc := (List.dropLast_concat_getLast hne).symm
  have hl : xs.getLast hne = v := by
    have := List.getLast_eq_getElem hne
    rw [this]
    have h1 : xs.length - 1 = n := by omega
    have h2 := (List.getElem?_eq_some_iff.mp h).2
    simp only [h1]
    exact h2
  rw [hl] at hc
  rw [hc]
  exact atI_last _ _
theorem at4n {a b c e s : Int} (h0 : 0 ≤ s) (h1 : s < 4) (ha : 0 ≤ a) (hb : 0 ≤ b) (hc : 0 ≤ c) (he : 0 ≤ e) : ∃ z : Int, 0 ≤ z ∧ atI [V.int a, V.int b, V.int c, V.int e] s = some (V.int z) := by
  rcases (show s = 0 ∨ s = 1 ∨ s = 2 ∨ s = 3 by omega) with rfl | rfl | rfl | rfl
  · exact ⟨a, ha, atI_nat (j := 0) rfl⟩
  · exact ⟨b, hb, atI_nat (j := 1) rfl⟩
  · exact ⟨c, hc, atI_nat (j := 2) rfl⟩
  · exact ⟨e, he, atI_nat (j := 3) rfl⟩
/-! ### a list of lists -/
def LAt (M : List Addr) (H : Hp) (R : Addr) (rows : Rows) : Prop := R ∉ M ∧ ∃ ps : List Addr, H R = some (.lst (ps.map V.ref)) ∧ ps.length = rows.length ∧ (∀ b ∈ ps, b ∉ M) ∧ ∀ (i : Nat) (b : Addr) (row : List (Option Int)), ps[i]? = some b → rows[i]? = some row → H b = some (.lst (row.map ov))
theorem LAt.kp {M : List Addr} {H H' : Hp} {R : Addr} {rows : Rows} (h : LAt M H R rows) (k : Kp M H H') : LAt M H' R rows := by
  obtain ⟨h0, ps, h1, h2, h3, h4⟩ := h
  exact ⟨h0, ps, k _ _ h0 h1, h2, h3, fun i b row e1 e2 => k _ _ (h3 b (List.mem_of_getElem? e1)) (h4 i b row e1 e2)⟩
theorem LAt.nr {H : Hp} {R b : Addr} {ps : List Addr} {row : List (Option Int)} (h1 : H R = some (.lst (ps.map V.ref))) (h2 : 0 < ps.length) (h3 : H b = some (.lst (row.map ov))) : b ≠ R := fun z => by
  rw [z, h1] at h3
  have e : ps.map V.ref = row.map ov := HO.lst.inj (Option.some.inj h3)
  cases ps with
  | nil => cases h2
  | cons p r =>
    cases row with
    | nil => cases e
    | cons x y =>
      rw [List.map_cons, List.map_cons] at e
      have e1 := (List.cons.inj e).1
      cases x <;> cases e1
/-- one more row behind -/
theorem LAt.push {M : List Addr} {H : Hp} {R b : Addr} {rows : Rows} {ps : List Addr} {row : List (Option Int)} (h0 : R ∉ M) (h1 : H R = some (.lst (ps.map V.ref))) (h2 : ps.length = rows.length) (h3 : ∀ b ∈ ps, b ∉ M) (h4 : ∀ (i : Nat) (b : Addr) (row : List (Option Int)), ps[i]? = some b → rows[i]? = some row → H b = some (.lst (row.map ov)))
    (hb : b ∉ M) (hbr : H b = some (.lst (row.map ov))) (hne : b ≠ R) : LAt M (upd H R (.lst (ps.map V.ref ++ [.ref b]))) R (rows ++ [row]) := by
  refine ⟨h0, ps ++ [b], ?_, ?_, ?_, ?_⟩
  · rw [upd_same, List.map_append]; rfl
  · rw [List.length_append, List.length_append, h2]; rfl
  · intro p hp
    rcases List.mem_append.mp hp with z | z
    · exact h3 p z
    · rw [List.mem_singleton.mp z]; exact hb
  · intro i p r e1 e2
    by_cases hi : i < ps.length
    · rw [List.getElem?_append_left hi] at e1
      rw [List.getElem?_append_left (by omega)] at e2
      have z := h4 i p r e1 e2
      rw [upd_ne (LAt.nr h1 (by omega) z)]
      exact z
    · have hil : i < (ps ++ [b]).length := (List.getElem?_eq_some_iff.mp e1).1
      rw [List.length_append] at hil
      have ei : i = ps.length := by simp at hil; omega
      subst ei
      rw [List.getElem?_append_right (Nat.le_refl _), Nat.sub_self] at e1
      rw [List.getElem?_append_right (by omega), show ps.length - rows.length = 0 by omega] at e2
      cases e1
      cases e2
      rw [upd_ne hne]
      exact hbr
end BT

namespace BT
open PySem PySem.Spec PyProof.Rows L2 GenW
def rSq (K : PySem.W.Frag) : R2 := fun x y H Q => ∃ p xs i v, x = .ref p ∧ y = .int i ∧ (SqL K H p xs ∨ SqT K H p xs) ∧ atI xs i = some v ∧ Q v H
theorem ixSK {X : Cx} (K : PySem.W.Frag) (h : X.K = K := by rfl) : IxR X (rSq K) := by
  subst h
  intro value slice pins s σ H x y v u Q I rx ry q hs
  obtain ⟨p, xs, i, w, e1, e2, e3, e4, e5⟩ := q
  rcases e3 with e3 | e3
  · exact ix_list value slice pins s σ H x y v u Q I rx ry ⟨p, xs, i, w, e1, e2, e3, e4, e5⟩ hs
  · exact ix_tup value slice pins s σ H x y v u Q I rx ry ⟨p, xs, i, w, e1, e2, e3, e4, e5⟩ hs
theorem sorK {X : Cx} (K : PySem.W.Frag) (h : X.K = K := by rfl) : CallR X (.builtin "sorted") (rSorted K) := by subst h; exact cr_sorted
theorem pzTK {X : Cx} {e e2 : Expr} {ta : TA} {p pos tpos : Pos} {elts : List Expr} {kk : Nat} (K : PySem.W.Frag) (hg : Gl X "zip") (hm : X.mg "zip" = none) (ha : PA X [e, e2] ta)
    (hs : starEach [e, e2] X.env = (false, eval e X.env) :: starEach [e2] X.env := by rfl) (hpl : (backTo pos (starEach [e2] X.env)).any (·.1) = false := by rfl) (h : X.K = K := by rfl) :
    PI X (.Tuple elts kk tpos) (.Call (.Name "zip" p) [e, e2] [] pos) (RZ.iZipA K ta) := by subst h; exact RZ.pi_zipA hg hm ha hs hpl
theorem pgTK {X : Cx} {es : List Expr} {k : Nat} {t : TGs} {n : Nat} {pos : Pos} (K : PySem.W.Frag) (hc : X.calm = true) (h : PGs X es t) (hn : (assignEach es X.env).length = n := by rfl) (hst : (assignEach es X.env).findIdx? (·.1) = none := by rfl) (hK : X.K = K := by rfl) : PG X (.Tuple es k pos) (gTup K n t) := by subst hK; exact pg_tup hc h hn hst
/-- rows, in lists or in tuples -/
def SqA (K : PySem.W.Frag) (H : Hp) (a : Addr) (xs : List V) : Prop := SqL K H a xs ∨ SqT K H a xs
def RowsAt (K : PySem.W.Frag) (H : Hp) (a : Addr) (rows : Rows) : Prop := ∃ ps : List Addr, SqA K H a (ps.map V.ref) ∧ ps.length = rows.length ∧ ∀ (i : Nat) (b : Addr) (row : List (Option Int)), ps[i]? = some b → rows[i]? = some row → SqA K H b (row.map ov)
theorem LAt.rows {K : PySem.W.Frag} {M : List Addr} {H : Hp} {R : Addr} {rows : Rows} (h : LAt M H R rows) : RowsAt K H R rows := by
  obtain ⟨h0, ps, h1, h2, h3, h4⟩ := h
  exact ⟨ps, .inl (lOf h1), h2, fun i b row e1 e2 => .inl (lOf (h4 i b row e1 e2))⟩
theorem TabAt.rows {K : PySem.W.Frag} {H : Hp} {R : Addr} {rows : Rows} (h : TabAt H R rows) : RowsAt K H R rows := by
  obtain ⟨ps, h1, h2, h4⟩ := h
  exact ⟨ps, .inr (tOf h1), h2, fun i b row e1 e2 => .inr (tOf (h4 i b row e1 e2))⟩
theorem okq_oj {rows : Rows} {i j k l : Nat} (h : rows.length ≤ j) : Okq rows i j k l := fun a b _ hb => by
  obtain ⟨r, e, _⟩ := cell_some hb
  have := (List.getElem?_eq_some_iff.mp e).1
  omega
theorem okq_ol {rows : Rows} {i j k l w : Nat} (hw : ∀ r ∈ rows, r.length = w) (h : w ≤ l) : Okq rows i j k l := fun a b ha _ => by
  obtain ⟨r, e, e2⟩ := cell_some ha
  have h1 := (List.getElem?_eq_some_iff.mp e2).1
  have h2 := hw r (List.mem_of_getElem? e)
  omega
theorem RowsAt.at {K : PySem.W.Frag} {H : Hp} {rows : Rows} {w : Nat} {ps : List Addr} (hl : ps.length = rows.length) (hb : ∀ (i : Nat) (b : Addr) (row : List (Option Int)), ps[i]? = some b → rows[i]? = some row → SqA K H b (row.map ov)) (hw : ∀ r ∈ rows, r.length = w) {i k : Nat} {zi zk : Int} (ei : zi = i) (ek : zk = k) (hi : i < rows.length) (hk : k < w) :
    ∃ (b : Addr) (row : List (Option Int)), atI (ps.map V.ref) zi = some (.ref b) ∧ SqA K H b (row.map ov) ∧ atI (row.map ov) zk = some (ov (cell rows i k)) := by
  have h1 : ps[i]? = some ps[i] := List.getElem?_eq_getElem (by omega)
  have h2 : rows[i]? = some rows[i] := List.getElem?_eq_getElem hi
  have h3 : rows[i].length = w := hw _ (List.getElem_mem _)
  have h4 : rows[i][k]? = some rows[i][k] := List.getElem?_eq_getElem (by omega)
  refine ⟨ps[i], rows[i], at_i ei (by rw [List.getElem?_map, h1]; rfl), hb i _ _ h1 h2, at_i ek ?_⟩
  rw [cell_of h2 h4, List.getElem?_map, h4]
  rfl
end BT

namespace BT
open PySem PySem.Spec PyProof.Rows L2 GenW
def cutRow (f l w : Nat) (r : List (Option Int)) : List (Option Int) := List.replicate f none ++ (r.drop f).take (l + 1 - f) ++ List.replicate (w - 1 - l) none
theorem cutRow_len {f l w : Nat} {r : List (Option Int)} (h : r.length = w) (h1 : f ≤ l) (h2 : l < w) : (cutRow f l w r).length = w := by
  unfold cutRow
  rw [List.length_append, List.length_append, List.length_replicate, List.length_replicate, List.length_take, List.length_drop]
  omega
theorem cutRow_at {f l w : Nat} {r : List (Option Int)} (h : r.length = w) (h1 : f ≤ l) (h2 : l < w) (k : Nat) : ((cutRow f l w r)[k]?).join = if f ≤ k ∧ k ≤ l then (r[k]?).join else none := by
  unfold cutRow
  have ht : ((r.drop f).take (l + 1 - f)).length = l + 1 - f := by rw [List.length_take, List.length_drop]; omega
  by_cases c1 : k < f
  · rw [List.append_assoc, List.getElem?_append_left (by rw [List.length_replicate]; exact c1), List.getElem?_replicate, if_pos c1, if_neg (by omega)]
    rfl
  · by_cases c2 : k ≤ l
    · rw [List.getElem?_append_left (by rw [List.length_append, List.length_replicate, ht]; omega), List.getElem?_append_right (by rw [List.length_replicate]; omega), List.length_replicate, List.getElem?_take_of_lt (by omega), List.getElem?_drop, show f + (k - f) = k by omega, if_pos (by omega)]
    · rw [List.getElem?_append_right (by rw [List.length_append, List.length_replicate, ht]; omega), List.getElem?_replicate, if_neg (show ¬ (f ≤ k ∧ k ≤ l) by omega)]
      split <;> rfl
theorem cut_mid {r : List (Option Int)} {f l w : Nat} (h : r.length = w) (h1 : f ≤ l) (h2 : l < w) : cutV (r.map ov) (some (f : Int)) (some ((l : Int) + 1)) = ((r.drop f).take (l + 1 - f)).map ov := by
  have e : (l : Int) + 1 = ((l + 1 : Nat) : Int) := by omega
  rw [e]
  unfold cutV
  rw [show HT.sIx (r.map ov).length 0 (some (f : Int)) = min f (r.map ov).length from HT.sIx_nat (r.map ov).length 0 f, show HT.sIx (r.map ov).length (r.map ov).length (some ((l + 1 : Nat) : Int)) = min (l + 1) (r.map ov).length from HT.sIx_nat (r.map ov).length _ (l + 1), List.length_map, h, Nat.min_eq_left (by omega), Nat.min_eq_left (by omega), List.map_take, List.map_drop]
theorem rep_non (n : Nat) : (List.replicate n [V.non]).flatten = (List.replicate n (none : Option Int)).map ov := by
  induction n with
  | zero => rfl
  | succ n ih => rw [List.replicate_succ, List.flatten_cons, ih, List.replicate_succ]; rfl
theorem cell_row {rows : Rows} {i k : Nat} {r : List (Option Int)} (h : rows[i]? = some r) : cell rows i k = (r[k]?).join := by
  unfold cell
  rw [h]
  rfl
theorem cut_bend {rows out : Rows} {w many : Nat} {fl : Nat → Nat × Nat} (hb : Bend rows) (hm : rows.length = many) (hw : ∀ r ∈ rows, r.length = w) (ho : out.length = many) (h1 : ∀ i, i < many → (fl i).1 ≤ (fl i).2 ∧ (fl i).2 < w)
    (h2 : ∀ i j, i < j → j < many → (fl i).1 ≤ (fl j).1 ∧ (fl i).2 ≤ (fl j).2) (hc : ∀ m r, m < many → rows[m]? = some r → out[m]? = some (cutRow (fl m).1 (fl m).2 w r)) : Bend out ∧ ∀ r ∈ out, r.length = w := by
  refine ⟨bend_cut hb fl (fun i j a b => (h2 i j a (by omega)).1) (fun i j a b => (h2 i j a (by omega)).2) fun i k hi => ?_, fun r hr => ?_⟩
  · have e : rows[i]? = some rows[i] := List.getElem?_eq_getElem (by omega)
    rw [cell_row (hc i _ (by omega) e), cell_row e]
    exact cutRow_at (hw _ (List.getElem_mem _)) (h1 i (by omega)).1 (h1 i (by omega)).2 k
  · obtain ⟨i, hi, rfl⟩ := List.getElem_of_mem hr
    have e : rows[i]? = some rows[i] := List.getElem?_eq_getElem (by omega)
    have z := hc i _ (by omega) e
    rw [List.getElem?_eq_getElem hi] at z
    rw [Option.some.inj z]
    exact cutRow_len (hw _ (List.getElem_mem _)) (h1 i (by omega)).1 (h1 i (by omega)).2
/-- one row put otherwise -/
theorem LAt.set {M : List Addr} {H : Hp} {R b : Addr} {rows : Rows} {ps : List Addr} {row : List (Option Int)} {n : Nat} (hn : n < ps.length) (h0 : R ∉ M) (h1 : H R = some (.lst (ps.map V.ref))) (h2 : ps.length = rows.length) (h3 : ∀ b ∈ ps, b ∉ M) (h4 : ∀ (i : Nat) (b : Addr) (row : List (Option Int)), ps[i]? = some b → rows[i]? = some row → H b = some (.lst (row.map ov)))
    (hb : b ∉ M) (hbr : H b = some (.lst (row.map ov))) : LAt M (upd H R (.lst ((ps.map V.ref).set n (.ref b)))) R (rows.set n row) := by
  refine ⟨h0, ps.set n b, ?_, ?_, ?_, ?_⟩
  · rw [upd_same, List.map_set]
  · rw [List.length_set, List.length_set, h2]
  · intro p hp
    rcases List.mem_or_eq_of_mem_set hp with z | z
    · exact h3 p z
    · rw [z]; exact hb
  · intro i p r e1 e2
    by_cases hi : n = i
    · subst hi
      rw [List.getElem?_set_self hn] at e1
      rw [List.getElem?_set_self (by omega)] at e2
      cases e1
      cases e2
      rw [upd_ne (LAt.nr h1 (by omega) hbr)]
      exact hbr
    · rw [List.getElem?_set_ne hi] at e1 e2
      have z := h4 i p r e1 e2
      rw [upd_ne (LAt.nr h1 (by omega) z)]
      exact z
theorem ins_at {α : Type} (xs : List α) (n : Nat) (y : α) (hn : n ≤ xs.length) (i : Nat) : (xs.take n ++ y :: xs.drop n)[i]? = if i < n then xs[i]? else if i = n then some y else xs[i - 1]? := by
  have ht : (xs.take n).length = n := by rw [List.length_take]; omega
  by_cases c : i < n
  · rw [if_pos c, List.getElem?_append_left (by omega), List.getElem?_take_of_lt c]
  · rw [if_neg c, List.getElem?_append_right (by omega), ht]
    by_cases c2 : i = n
    · rw [if_pos c2, c2, Nat.sub_self]; rfl
    · rw [if_neg c2]
      obtain ⟨m, rfl⟩ : ∃ m, i = n + m + 1 := ⟨i - n - 1, by omega⟩
      rw [show n + m + 1 - n = m + 1 by omega, List.getElem?_cons_succ, List.getElem?_drop, show n + m + 1 - 1 = n + m by omega]
/-- one row put in -/
theorem LAt.ins {M : List Addr} {H : Hp} {R b : Addr} {rows : Rows} {ps : List Addr} {row : List (Option Int)} {n : Nat} (hn : n ≤ ps.length) (hp : 0 < ps.length) (h0 : R ∉ M) (h1 : H R = some (.lst (ps.map V.ref))) (h2 : ps.length = rows.length) (h3 : ∀ b ∈ ps, b ∉ M) (h4 : ∀ (i : Nat) (b : Addr) (row : List (Option Int)), ps[i]? = some b → rows[i]? = some row → H b = some (.lst (row.map ov)))
    (hb : b ∉ M) (hbr : H b = some (.lst (row.map ov))) : LAt M (upd H R (.lst ((ps.map V.ref).take n ++ [.ref b] ++ (ps.map V.ref).drop n))) R (rows.take n ++ row :: rows.drop n) := by
  refine ⟨h0, ps.take n ++ b :: ps.drop n, ?_, ?_, ?_, ?_⟩
  · rw [upd_same, List.map_append, List.map_cons, List.map_take, List.map_drop, List.append_assoc]
    rfl
  · rw [List.length_append, List.length_append, List.length_cons, List.length_cons, List.length_take, List.length_take, List.length_drop, List.length_drop, h2]
  · intro p hp
    rcases List.mem_append.mp hp with z | z
    · exact h3 p (List.mem_of_mem_take z)
    · rcases List.mem_cons.mp z with z | z
      · rw [z]; exact hb
      · exact h3 p (List.mem_of_mem_drop z)
  · intro i p r e1 e2
    rw [ins_at _ _ _ hn] at e1
    rw [ins_at _ _ _ (by omega)] at e2
    by_cases c : i < n
    · rw [if_pos c] at e1 e2
      have z := h4 i p r e1 e2
      rw [upd_ne (LAt.nr h1 hp z)]
      exact z
    · rw [if_neg c] at e1 e2
      by_cases c2 : i = n
      · rw [if_pos c2] at e1 e2
        cases e1
        cases e2
        rw [upd_ne (LAt.nr h1 hp hbr)]
        exact hbr
      · rw [if_neg c2] at e1 e2
        have z := h4 _ p r e1 e2
        rw [upd_ne (LAt.nr h1 hp z)]
        exact z
theorem ixN_nat {n j : Nat} (h : j < n) : ixN n (j : Int) = some j := by
  unfold ixN
  simp
  omega
end BT

namespace BT
open PySem PySem.Spec PyProof.Rows L2 GenW
theorem tuple_mul1 (l : Addr) (items : Array Value) (n : Nat) (dd : Option Addr) (sl : Array (Option Value)) (u : Tok) :
    Meets (Builtin.«tuple.__mul__» ⟨[.ref l, .int 1 u], []⟩) (fun _ R s => s.heap.get? l = some { cls := .type "tuple", dict := dd, data := .seq items n, slots := sl } ∧ R (.ok (.ret (.ref l))) s) :=
  .of_wp fun prog w A R s h => by
    obtain ⟨hp, g, d, tk, os⟩ := s
    obtain ⟨hl, h⟩ := h
    have f1 := AutoSeq1.idx_int
    wp_walk using wpAny_loadPart' hl
    exact ⟨_, rfl, h⟩
/-- a tuple that is not empty, times a number from 1 on: once it is itself -/
def rRepA (K : PySem.W.Frag) : R2 := fun x y H Q => ∃ l k xs, x = .ref l ∧ y = .int k ∧ SqT K H l xs ∧ xs ≠ [] ∧ 1 ≤ k ∧ k ≤ 1000 ∧ xs.length ≤ 1000 ∧ (k = 1 → Q (.ref l) H) ∧ (2 ≤ k → ∀ p, H p = none → Q (.ref p) (upd H p (.tup (List.replicate k.toNat xs).flatten)))
theorem repAK {X : Cx} (K : PySem.W.Frag) (h : X.K = K := by rfl) : OpR X (binaryOp .Mult) (rRepA K) := by
  subst h
  intro pins s σ H x y v u Q I rx ry h
  obtain ⟨l, k, xs, e1, e2, hT, hne, h1, h2, hz, q1, q2⟩ := h
  by_cases hk : k = 1
  · subst hk e1 e2
    cases rx
    obtain ⟨t, rfl⟩ := ry
    obtain ⟨its, r, ⟨⟨cls, dd, data, sl⟩, ho, hc, n, hd⟩, hs⟩ := I.tuple hT
    simp only at hc hd
    subst hc hd
    refine wpAny_binaryOp_repeat_ref (T := "tuple") (U := "int") (by decide) ⟨_, ho, rfl⟩ (fun s' => typeIs_int s' 1 t) noFill_tuple_mul F.fills_int_mul F.slot_int_rmul repeat_tuple F.slot_int_index.lookup
      (call_meets F.slot_int_rmul (typeIs_int s 1 t) F.entry_int_rmul (F.args_int_rmul_2 _ _) (int_rmul_tuple 1 t l its.toArray n dd sl)
        ⟨ho, rfl, ⟨_, ho, rfl⟩, call_meets F.slot_tuple_mul ⟨_, ho, rfl⟩ F.entry_tuple_mul (F.args_tuple_mul_2 _ _) (tuple_mul1 l its.toArray n dd sl t) ⟨ho, ?_⟩⟩)
    exact ⟨.ref l, H, I, rfl, q1 rfl⟩
  · exact op_repT pins s σ H x y v u Q I rx ry ⟨l, k, xs, e1, e2, hT, hne, by omega, h2, hz, q2 (by omega)⟩
theorem catAK {X : Cx} (K : PySem.W.Frag) (h : X.K = K := by rfl) : OpR X (binaryOp .Add) (rCatA K) := by subst h; exact op_catA
theorem slAK {X : Cx} (K : PySem.W.Frag) (h : X.K = K := by rfl) : SlR X (rSlA K) := by subst h; exact sl_tupA
end BT

namespace BT
open PySem PySem.Spec PyProof.Rows L2 GenW HT
section
variable {prog : Program} {w : World} {A : Around} {E : Value → Shared → Prop} {s : Shared}
theorem adjust_rev (n : Nat) : Builtin.Slice.sliceAdjust none none (-1) (n : Int) = ((n : Int) - 1, -1) := by
  unfold Builtin.Slice.sliceAdjust
  simp
theorem places_rev (n : Nat) : Builtin.Slice.slicePlaces ((n : Int) - 1) (-1) (-1) = n := by
  unfold Builtin.Slice.slicePlaces
  simp
  omega
theorem sliceApplied_rev {sl : Addr} {vl vu vs : Value} {n : Nat} {Q : Int × Int × Nat → Shared → Prop} (hs : s.heap.IsSliceOf sl vl vu vs) (pl : IsPart vl none) (pu : IsPart vu none) (ps : IsPart vs (some (-1)))
    (h : Q ((n : Int) - 1, -1, n) s) : wpAny (model prog w) A (Builtin.Slice.sliceApplied (.ref sl) (pure (n : Int))) Q E s := by
  obtain ⟨os, hos, hcs, hds⟩ := id hs
  unfold Builtin.Slice.sliceApplied Builtin.Slice.sliceFields
  refine wpAny_bind (wpAny_bind (wpAny_field hos hds (x := vl) rfl (wpAny_bind (wpAny_field hos hds (x := vu) rfl (wpAny_bind (wpAny_field hos hds (x := vs) rfl (wpAny_pure ?_)))))))
  refine wpAny_bind (slicePart_ ps ?_)
  show wpAny _ _ (if ((-1 : Int) == 0) = true then _ else _) _ _ s
  rw [if_neg (by decide)]
  refine wpAny_bind (slicePart_ pl (wpAny_bind (slicePart_ pu (wpAny_bind (wpAny_pure ?_)))))
  show wpAny _ _ (match Builtin.Slice.sliceAdjust none none (-1) (n : Int) with | (lo, hi) => pure (lo, (-1 : Int), Builtin.Slice.slicePlaces lo hi (-1))) _ _ s
  rw [adjust_rev n]
  show wpAny _ _ (pure ((n : Int) - 1, (-1 : Int), Builtin.Slice.slicePlaces ((n : Int) - 1) (-1) (-1))) _ _ s
  rw [places_rev]
  exact wpAny_pure h
theorem pick_rev (xs : Array Value) : ((List.range xs.size).filterMap fun (m : Nat) => xs[(((xs.size : Nat) : Int) - 1 + (m : Int) * (-1)).toNat]?).toArray = xs.toList.reverse.toArray := by
  rw [← PySem.W.krv_pick]
  unfold slicePick
  rw [PySem.W.krv_bounds]
  show _ = ((sliceRange ((xs.size : Int) - 1) (-1) (-1)).filterMap (xs[·]?)).toArray
  rw [PySem.W.krv_sliceRange, List.filterMap_map]
  congr 2
  funext m
  have : (((xs.size : Nat) : Int) - 1 + (m : Int) * (-1)).toNat = xs.size - 1 - m := by omega
  rw [this]
  rfl
theorem getItem_tuple_rev {t sl : Addr} {items : Array Value} {vl vu vs : Value} {Q : Value → Shared → Prop} (ht : IsTup s.heap t items) (hs : s.heap.IsSliceOf sl vl vu vs) (pl : IsPart vl none) (pu : IsPart vu none) (ps : IsPart vs (some (-1)))
    (h : Q (.ref s.heap.objs.size) { s with heap := s.heap.push { cls := .type "tuple", data := .seq items.toList.reverse.toArray } })
    (hsz : items.size ≤ sizeLine) : wpAny (model prog w) A (getItem (.ref t) (.ref sl)) Q E s := by
  have htake : sizeOk (.seq items.toList.reverse.toArray) := by
    show items.toList.reverse.toArray.size ≤ sizeLine
    rw [List.size_toArray, List.length_reverse, Array.length_toList]
    exact hsz
  obtain ⟨os, hos, hcs, hds⟩ := id hs
  have hTs : s.TypeIs (.ref sl) "slice" := ⟨os, hos, hcs⟩
  unfold getItem
  try with_reducible refine wpAny_holding ?_
  first | refine wpAny_bind (wpAny_pure ?_) | skip
  refine wpAny_bind (wpAny_sequenceKey ht.typeIs (by decide) ?_)
  refine wpAny_bind (wpAny_callSpecial?_slot (name := Str.ofString "__getitem__") ht.typeIs PyProof.Rows.slot_tuple_getitem
    (wpAny_call_entry PyProof.Rows.slot_tuple_getitem ht.typeIs entry_tuple_getitem ?_ (args_tuple_getitem _ _)))
  show wpAny _ _ (Builtin.Tuple.tupleItemsOf (.ref t) >>= _) _ _ s
  refine wpAny_bind (tupleItemsOf_ ht ?_)
  refine wpAny_bind (wpAny_typeOf hTs ?_)
  rw [if_pos (by decide)]
  refine wpAny_bind (sliceApplied_rev hs pl pu ps ?_)
  have hno : ¬ ((((items.size : Nat) : Int) - 1 == 0 && (-1 : Int) == 1 && items.size == items.size) = true) := by
    simp
  show wpAny _ _ (if (((items.size : Nat) : Int) - 1 == 0 && (-1 : Int) == 1 && items.size == items.size) = true then _ else _) _ _ s
  rw [if_neg hno, pick_rev]
  first
    | exact wpAny_bind (m := Builtin.Tuple.tupleExact _) (wpAny_newObj_type (wpAny_pure ⟨_, rfl, wpAny_pure h⟩) htake)
    | exact wpAny_bind (m := Builtin.Tuple.tupleExact _) (wpAny_newObj_type (wpAny_bind (wpAny_pure (wpAny_pure ⟨_, rfl, wpAny_pure h⟩))) htake)
    | exact wpAny_bind (wpAny_bind (m := Builtin.Tuple.tupleExact _) (wpAny_newObj_type (wpAny_pure (wpAny_pure ⟨_, rfl, wpAny_pure h⟩)) htake))
    | exact wpAny_bind (wpAny_bind (m := Builtin.Tuple.tupleExact _) (wpAny_newObj_type (wpAny_pure ⟨_, rfl, wpAny_pure h⟩) htake))
end
/-- t[::-1] -/
def tRevT (K : PySem.W.Frag) (te : TE) : TE := fun σ H Q => te σ H fun x H1 => ∃ a xs, x = .ref a ∧ SqT K H1 a xs ∧ ∀ p, H1 p = none → Q (.ref p) (upd H1 p (.tup xs.reverse))
theorem pe_revT {X : Cx} {e : Expr} {te : TE} {k : Nat} {p1 p2 p3 pos : Pos} (K : PySem.W.Frag) (he : PE X e te) (hK : X.K = K := by rfl) : PE X (.Subscript e (.Slice none none (some (.UnaryOp .USub (.Constant (.int 1) k p1) p2)) p3) pos) (tRevT K te) := by
  subst hK
  refine ⟨fun pins s σ H Q I h => ?_⟩
  refine Subscript_ (thn (he.run pins s σ H _ I h) fun v s1 ⟨x, H1, I1, r1, q1⟩ => ?_)
  obtain ⟨a, xs, ex, hx, q⟩ := q1
  subst ex
  cases r1
  have hst : PO X (some (.UnaryOp .USub (.Constant (.int 1) k p1) p2)) (tPart (tUn (rU fun i => .int (-i)) (tC (.int 1)))) := po_some (pe_un un_neg pe_int)
  refine wpAny_Slice (thn (po_none.run pins s1 σ H1 (fun o H2 => o = none ∧ H2 = H1) I1 ⟨rfl, rfl⟩) fun vl s2 ⟨l, H2, I2, pl, el, e2⟩ => ?_)
  subst el e2
  refine thn (po_none.run pins s2 σ H2 (fun o H3 => o = none ∧ H3 = H2) I2 ⟨rfl, rfl⟩) fun vu s3 ⟨u, H3, I3, pu, eu, e3⟩ => ?_
  subst eu e3
  refine thn (hst.run pins s3 σ H3 (fun o H4 => o = some (-1) ∧ H4 = H3) I3 ⟨1, rfl, -1, rfl, rfl, rfl⟩) fun vs s4 ⟨o, H4, I4, ps, eo, e4⟩ => ?_
  subst eo e4
  have I5 : Inv X pins σ H4 { s4 with heap := s4.heap.push { cls := .type "slice", data := .fields #[vl, vu, vs] } } := I4.kept (t' := s4.toks) fun b ob q => Heap.get?_push_of_some _ q
  obtain ⟨its, r, ht, hz⟩ := I5.tuple hx
  have hlen := r.length
  show wpAny (model X.prog X.w) X.A (subscriptTail e (.Slice none none (some (.UnaryOp .USub (.Constant (.int 1) k p1) p2)) p3) (.ref a) (.ref s4.heap.objs.size)) (EP X pins σ Q) X.xe { s4 with heap := s4.heap.push { cls := .type "slice", data := .fields #[vl, vu, vs] } }
  refine tail_any (ops := [.ref a, .ref s4.heap.objs.size]) ht.typeIs (PyProof.Rows.slot_tuple_getitem.lookup) ?_ (by with_unfolding_all rfl)
  refine getItem_tuple_rev ht (Heap.IsSliceOf.new _ vl vu vs) pl pu ps ?_ (by rw [List.size_toArray]; omega)
  refine ⟨.ref _, _, I5.laid (t' := s4.toks) (o := .tup xs.reverse) (fun b ob q => Heap.get?_push_of_some _ q) (Nat.le_refl _) ?_, rfl, q _ (I5.hok.fresh (Nat.le_refl _))⟩
  exact ⟨by rw [List.length_reverse]; exact hz, _, r.reverse, IsTup.new _ _⟩
end BT

namespace BT
open PySem PySem.Spec PyProof.Rows L2 GenW
theorem foldl_max_mem : ∀ (r : List Int) (n : Int), (r.foldl max n = n ∨ r.foldl max n ∈ r) ∧ n ≤ r.foldl max n ∧ ∀ y ∈ r, y ≤ r.foldl max n
  | [], n => ⟨.inl rfl, Int.le_refl _, fun y h => by cases h⟩
  | x :: r, n => by
    obtain ⟨h1, h2, h3⟩ := foldl_max_mem r (max n x)
    rw [List.foldl_cons]
    refine ⟨?_, by omega, fun y hy => ?_⟩
    · rcases h1 with h | h
      · rcases Int.le_total n x with c | c
        · exact .inr (by rw [h, Int.max_eq_right c]; exact List.mem_cons_self)
        · exact .inl (by rw [h, Int.max_eq_left c])
      · exact .inr (List.mem_cons_of_mem _ h)
    · rcases List.mem_cons.mp hy with e | e
      · subst e; omega
      · exact h3 y e
theorem foldl_min_mem : ∀ (r : List Int) (n : Int), (r.foldl min n = n ∨ r.foldl min n ∈ r) ∧ r.foldl min n ≤ n ∧ ∀ y ∈ r, r.foldl min n ≤ y
  | [], n => ⟨.inl rfl, Int.le_refl _, fun y h => by cases h⟩
  | x :: r, n => by
    obtain ⟨h1, h2, h3⟩ := foldl_min_mem r (min n x)
    rw [List.foldl_cons]
    refine ⟨?_, by omega, fun y hy => ?_⟩
    · rcases h1 with h | h
      · rcases Int.le_total n x with c | c
        · exact .inl (by rw [h, Int.min_eq_left c])
        · exact .inr (by rw [h, Int.min_eq_right c]; exact List.mem_cons_self)
      · exact .inr (List.mem_cons_of_mem _ h)
    · rcases List.mem_cons.mp hy with e | e
      · subst e; omega
      · exact h3 y e
/-- max(t), min(t) of a tuple of ints -/
def rMaxT (K : PySem.W.Frag) : List V → Hp → VK → Prop := fun vs H Q => ∃ (a : Addr) (ns : List Int), vs = [V.ref a] ∧ SqT K H a (ns.map V.int) ∧ 0 < ns.length ∧ ∀ m, m ∈ ns → (∀ y, y ∈ ns → y ≤ m) → Q (.int m) H
def rMinT (K : PySem.W.Frag) : List V → Hp → VK → Prop := fun vs H Q => ∃ (a : Addr) (ns : List Int), vs = [V.ref a] ∧ SqT K H a (ns.map V.int) ∧ 0 < ns.length ∧ ∀ m, m ∈ ns → (∀ y, y ∈ ns → m ≤ y) → Q (.int m) H
theorem maxTK {X : Cx} (K : PySem.W.Frag) (hc : X.calm = true) (hu : X.A.units + 64 < cLine) (h : X.K = K := by rfl) : CallR X (.builtin "max") (rMaxT K) := by
  subst h
  intro pins s σ H vs us Q I r h
  obtain ⟨a, ns, rfl, hs, hne, q⟩ := h
  obtain ⟨its, rv, ht, _⟩ := I.tuple hs
  rw [Vals.ref1 r]
  obtain ⟨as, rs⟩ := Dp.readsAll I (ns.map PyData.int) _ _ (dpAll_ints ns) rv
  cases ns with
  | nil => cases hne
  | cons n r2 =>
    refine PySem.W.max_tuple_data (vs := its.toArray) (x := .int n) (xs := r2.map .int) (as := as) (I.ok.hd hc) ht (by simpa using rs) (PySem.W.alikeAll_datum (α := Int) (n :: r2)) (PySem.W.room_all (PySem.W.depthAll_map (α := Int) (n :: r2)) ?_) fun i v h' tk bs hi rr hk => ?_
    · show X.A.units + 1 + 0 < cLine
      omega
    · rw [PySem.W.maxD_ints] at rr
      obtain ⟨g1, g2, g3⟩ := foldl_max_mem r2 n
      cases rr
      refine ⟨.int _, H, I.kept hk, ⟨_, rfl⟩, q _ ?_ fun y hy => ?_⟩
      · rcases g1 with g | g
        · rw [g]; exact List.mem_cons_self
        · exact List.mem_cons_of_mem _ g
      · rcases List.mem_cons.mp hy with e | e
        · rw [e]; exact g2
        · exact g3 y e
theorem minTK {X : Cx} (K : PySem.W.Frag) (hc : X.calm = true) (hu : X.A.units + 64 < cLine) (h : X.K = K := by rfl) : CallR X (.builtin "min") (rMinT K) := by
  subst h
  intro pins s σ H vs us Q I r h
  obtain ⟨a, ns, rfl, hs, hne, q⟩ := h
  obtain ⟨its, rv, ht, _⟩ := I.tuple hs
  rw [Vals.ref1 r]
  obtain ⟨as, rs⟩ := Dp.readsAll I (ns.map PyData.int) _ _ (dpAll_ints ns) rv
  cases ns with
  | nil => cases hne
  | cons n r2 =>
    refine PySem.W.min_tuple_data (vs := its.toArray) (x := .int n) (xs := r2.map .int) (as := as) (I.ok.hd hc) ht (by simpa using rs) (PySem.W.alikeAll_datum (α := Int) (n :: r2)) (PySem.W.room_all (PySem.W.depthAll_map (α := Int) (n :: r2)) ?_) fun i v h' tk bs hi rr hk => ?_
    · show X.A.units + 1 + 0 < cLine
      omega
    · rw [PySem.W.minD_ints] at rr
      obtain ⟨g1, g2, g3⟩ := foldl_min_mem r2 n
      cases rr
      refine ⟨.int _, H, I.kept hk, ⟨_, rfl⟩, q _ ?_ fun y hy => ?_⟩
      · rcases g1 with g | g
        · rw [g]; exact List.mem_cons_self
        · exact List.mem_cons_of_mem _ g
      · rcases List.mem_cons.mp hy with e | e
        · rw [e]; exact g2
        · exact g3 y e
end BT

namespace BT
open PySem PySem.Spec PyProof.Rows L2 GenW
/-! ### the deck that is a list: cells, a seed, how many draws -/
def Dl (d c : Addr) (H : Hp) : Prop := ∃ (cells : List Int) (sd a : Int), H d = some (.lst [.ref c, .int sd, .int a]) ∧ H c = some (.lst (cells.map V.int)) ∧ cells.length ≤ 63
theorem Dl.ne {d c : Addr} {H : Hp} (h : Dl d c H) : d ≠ c := fun z => by
  obtain ⟨cs, sd, a, h1, h2, _⟩ := h
  rw [z, h2] at h1
  have e : cs.map V.int = [.ref c, .int sd, .int a] := HO.lst.inj (Option.some.inj h1)
  cases cs with
  | nil => cases e
  | cons x r => cases (List.cons.inj e).1
theorem Dl.kp {d c : Addr} {M : List Addr} {H H' : Hp} (h : Dl d c H) (k : Kp M H H') (hd : d ∉ M) (hc : c ∉ M) : Dl d c H' := by
  obtain ⟨cs, sd, a, h1, h2, h3⟩ := h
  exact ⟨cs, sd, a, k _ _ hd h1, k _ _ hc h2, h3⟩
theorem Dl.ni {d c p : Addr} {H : Hp} (h : Dl d c H) (np : H p = none) : p ∉ [d, c] := fun z => by
  obtain ⟨_, _, _, h1, h2, _⟩ := h
  rcases List.mem_cons.mp z with e | e
  · rw [e, h1] at np; cases np
  · rw [List.mem_singleton.mp e, h2] at np; cases np
theorem Dl.new {d c p : Addr} {H : Hp} {o : HO} (h : Dl d c H) (np : H p = none) : Dl d c (upd H p o) := h.kp (M := []) (Kp.new np) (by simp) (by simp)
theorem Dl.up {d c p : Addr} {H : Hp} {o : HO} (h : Dl d c H) (np : p ∉ [d, c]) : Dl d c (upd H p o) := by
  obtain ⟨cs, sd, a, h1, h2, h3⟩ := h
  refine ⟨cs, sd, a, ?_, ?_, h3⟩
  · rw [upd_ne (fun z => np (by rw [← z]; exact List.mem_cons_self))]; exact h1
  · rw [upd_ne (fun z => np (by rw [← z]; exact List.mem_cons_of_mem _ (List.mem_singleton.mpr rfl)))]; exact h2
theorem NT.dl {H : Hp} {d c : Addr} (h : Dl d c H) : NT [d, c] H := fun m hm xs z => by
  obtain ⟨_, _, _, h1, h2, _⟩ := h
  rcases List.mem_cons.mp hm with e | e
  · rw [e, h1] at z; cases z
  · rw [List.mem_singleton.mp e, h2] at z; cases z
theorem TabG.ndl {H : Hp} {P d c : Addr} (h : TabG H P) (hd : Dl d c H) : P ∉ [d, c] := fun z => by
  obtain ⟨ps, hp, _⟩ := h
  obtain ⟨_, _, _, h1, h2, _⟩ := hd
  rcases List.mem_cons.mp z with e | e
  · rw [e, h1] at hp; cases hp
  · rw [List.mem_singleton.mp e, h2] at hp; cases hp
/-- the parts of the deck, and writing them -/
theorem dl0 {c : Addr} {sd a : Int} : atI [V.ref c, .int sd, .int a] 0 = some (.ref c) := atI_nat (j := 0) rfl
theorem dl1 {c : Addr} {sd a : Int} : atI [V.ref c, .int sd, .int a] 1 = some (.int sd) := atI_nat (j := 1) rfl
theorem dl2 {c : Addr} {sd a : Int} : atI [V.ref c, .int sd, .int a] 2 = some (.int a) := atI_nat (j := 2) rfl
theorem ix1 : ixN 3 1 = some 1 := by decide
theorem ix2 : ixN 3 2 = some 2 := by decide
theorem pop0 {x : Int} {r : List Int} : seqIndex? 0 ((x :: r).map V.int).length = some 0 := by
  rw [List.length_map]
  exact seqIndex_of (by decide) (by simp)
end BT

/-! joined and undone rows: the mathematics of 13 and 14 -/
namespace BT
theorem at_lt {a : List Int} {i : Nat} {x : Int} (h : a[i]? = some x) : i < a.length := (List.getElem?_eq_some_iff.mp h).1
theorem at_ex {a : List Int} {i : Nat} (h : i < a.length) : ∃ x, a[i]? = some x := ⟨_, List.getElem?_eq_getElem h⟩
theorem eq_of_at {a b : List Int} (hl : a.length = b.length) (h : ∀ (i : Nat) x y, a[i]? = some x → b[i]? = some y → x = y) : a = b := by
  refine List.ext_getElem? fun i => ?_
  by_cases c : i < a.length
  · obtain ⟨x, hx⟩ := at_ex c
    obtain ⟨y, hy⟩ := at_ex (show i < b.length by omega)
    rw [hx, hy, h i x y hx hy]
  · rw [List.getElem?_eq_none (by omega), List.getElem?_eq_none (by omega)]
/-- s is what a and b joined make -/
def Jn (a b s : List Int) : Prop := s.length + 1 = a.length + b.length ∧ (∀ (k : Nat) z, s[k]? = some z → ∃ i j x y, i + j = k ∧ a[i]? = some x ∧ b[j]? = some y ∧ z = x + y) ∧ ∀ (i j : Nat) x y z, a[i]? = some x → b[j]? = some y → s[i + j]? = some z → z ≤ x + y
/-- u is r undone by b -/
def Un (r b u : List Int) : Prop := u.length + b.length = r.length + 1 ∧ (∀ (i : Nat) z, u[i]? = some z → ∃ j x y, r[i + j]? = some x ∧ b[j]? = some y ∧ z = x - y) ∧ ∀ (i j : Nat) x y z, r[i + j]? = some x → b[j]? = some y → u[i]? = some z → x - y ≤ z
theorem Jn.uniq {a b s s' : List Int} (h : Jn a b s) (h' : Jn a b s') : s = s' := by
  refine eq_of_at (by have := h.1; have := h'.1; omega) fun k x y hx hy => ?_
  obtain ⟨i, j, p, q, rfl, hp, hq, e⟩ := h.2.1 k x hx
  obtain ⟨i', j', p', q', e2, hp', hq', e'⟩ := h'.2.1 _ y hy
  have g1 := h'.2.2 i j p q y hp hq hy
  rw [← e2] at hx
  have g2 := h.2.2 i' j' p' q' x hp' hq' hx
  omega
theorem Un.uniq {r b u u' : List Int} (h : Un r b u) (h' : Un r b u') : u = u' := by
  refine eq_of_at (by have := h.1; have := h'.1; omega) fun i x y hx hy => ?_
  obtain ⟨j, p, q, hp, hq, e⟩ := h.2.1 i x hx
  obtain ⟨j', p', q', hp', hq', e'⟩ := h'.2.1 i y hy
  have g1 := h'.2.2 i j p q y hp hq hy
  have g2 := h.2.2 i j' p' q' x hp' hq' hx
  omega
theorem Jn.comm {a b s : List Int} (h : Jn a b s) : Jn b a s := by
  refine ⟨by have := h.1; omega, fun k z hz => ?_, fun i j x y z hx hy hz => ?_⟩
  · obtain ⟨i, j, p, q, e, hp, hq, e2⟩ := h.2.1 k z hz
    exact ⟨j, i, q, p, by omega, hq, hp, by omega⟩
  · have := h.2.2 j i y x z hy hx (by rw [Nat.add_comm]; exact hz)
    omega
/-- nowhere is the undone one more than the one -/
theorem un_le {a b s u : List Int} (h : Jn a b s) (g : Un s b u) {i : Nat} {x z : Int} (hx : a[i]? = some x) (hz : u[i]? = some z) : z ≤ x := by
  obtain ⟨j, p, q, hp, hq, e⟩ := g.2.1 i z hz
  have := h.2.2 i j x q p hx hq hp
  omega
/-- undone and joined again it is the same row -/
theorem jn_back {a b s u s' : List Int} (ha : 0 < a.length) (hb : 0 < b.length) (h : Jn a b s) (g : Un s b u) (h' : Jn u b s') : s' = s := by
  have l1 := h.1
  have l2 := g.1
  have l3 := h'.1
  refine eq_of_at (by omega) fun k x y hx hy => ?_
  obtain ⟨i, j, p, q, rfl, hp, hq, e⟩ := h'.2.1 k x hx
  have g1 := g.2.2 i j y q p hy hq hp
  obtain ⟨i', j', p', q', e2, hp', hq', e'⟩ := h.2.1 _ y hy
  obtain ⟨w, hw⟩ := at_ex (a := u) (i := i') (by have := at_lt hp'; omega)
  have g2 := un_le h g hp' hw
  rw [← e2] at hx
  have g3 := h'.2.2 i' j' w q' x hw hq' hx
  omega
/-- joined with other it has nowhere less than the row -/
theorem jn_over {r b u s : List Int} (g : Un r b u) (h : Jn u b s) {k : Nat} {x z : Int} (hx : r[k]? = some x) (hz : s[k]? = some z) : x ≤ z := by
  obtain ⟨i, j, p, q, rfl, hp, hq, e⟩ := h.2.1 k z hz
  have := g.2.2 i j x q p hx hq hp
  omega
/-- undone by both, one behind the other, it is undone by both joined -/
theorem un_un {r b c s u w w' : List Int} (hb : 0 < b.length) (hc : 0 < c.length) (g1 : Un r b u) (g2 : Un u c w) (h : Jn b c s) (g3 : Un r s w') : w = w' := by
  have l1 := g1.1
  have l2 := g2.1
  have l3 := h.1
  have l4 := g3.1
  refine eq_of_at (by omega) fun i x y hx hy => ?_
  obtain ⟨k, p, q, hp, hq, e⟩ := g2.2.1 i x hx
  obtain ⟨j, p', q', hp', hq', e'⟩ := g1.2.1 _ p hp
  have lq := at_lt hq
  have lq' := at_lt hq'
  obtain ⟨t, ht⟩ := at_ex (a := s) (i := j + k) (by omega)
  have k1 := h.2.2 j k q' q t hq' hq ht
  have k2 := g3.2.2 i (j + k) p' t y (by rw [show i + (j + k) = i + k + j by omega]; exact hp') ht hy
  obtain ⟨m, p2, q2, hp2, hq2, e2⟩ := g3.2.1 i y hy
  obtain ⟨j2, k3, x2, y2, e3, hx2, hy2, e4⟩ := h.2.1 m q2 hq2
  have lx := at_lt hx2
  have ly := at_lt hy2
  have li := at_lt hx
  obtain ⟨v, hv⟩ := at_ex (a := u) (i := i + k3) (by omega)
  have k4 := g1.2.2 (i + k3) j2 p2 x2 v (by rw [show i + k3 + j2 = i + m by omega]; exact hp2) hx2 hv
  have k5 := g2.2.2 i k3 v y2 x hv hy2 hx
  omega
end BT

namespace BT
def Up (a : List Int) : Prop := ∀ i, i + 2 < a.length → a.getD (i + 1) 0 - a.getD i 0 ≤ a.getD (i + 2) 0 - a.getD (i + 1) 0
theorem gd {a : List Int} {i : Nat} {x : Int} (h : a[i]? = some x) : a.getD i 0 = x := by rw [List.getD_eq_getElem?_getD, h]; rfl
theorem dg {a : List Int} {i : Nat} (h : i < a.length) : a[i]? = some (a.getD i 0) := by
  rw [List.getD_eq_getElem?_getD, List.getElem?_eq_getElem h]
  rfl
theorem up_mono {a : List Int} (h : Up a) (i : Nat) : ∀ t, i + t + 1 < a.length → a.getD (i + 1) 0 - a.getD i 0 ≤ a.getD (i + t + 1) 0 - a.getD (i + t) 0
  | 0, _ => Int.le_refl _
  | t + 1, hl => by
    have h1 := up_mono h i t (by omega)
    have h2 := h (i + t) (by omega)
    rw [show i + (t + 1) + 1 = i + t + 2 by omega, show i + (t + 1) = i + t + 1 by omega]
    omega
theorem up_le {a : List Int} (h : Up a) {i j : Nat} (hij : i ≤ j) (hl : j + 1 < a.length) : a.getD (i + 1) 0 - a.getD i 0 ≤ a.getD (j + 1) 0 - a.getD j 0 := by
  have := up_mono h i (j - i) (by omega)
  rw [show i + (j - i) + 1 = j + 1 by omega, show i + (j - i) = j by omega] at this
  exact this
/-- from a place where neither step tempts, no other one of that sum is less: to the right of i -/
theorem best_right {a b : List Int} (ha : Up a) (hb : Up b) {i j : Nat} (hc : i + 1 < a.length → 1 ≤ j → b.getD j 0 - b.getD (j - 1) 0 ≤ a.getD (i + 1) 0 - a.getD i 0) (hj : j < b.length) :
    ∀ t, i + t < a.length → t ≤ j → a.getD i 0 + b.getD j 0 ≤ a.getD (i + t) 0 + b.getD (j - t) 0
  | 0, _, _ => Int.le_refl _
  | t + 1, h1, h2 => by
    have h3 := best_right ha hb hc hj t (by omega) (by omega)
    have h4 := up_le ha (show i ≤ i + t by omega) (by omega)
    have h5 := hc (by omega) (by omega)
    have h6 := up_le hb (show j - t - 1 ≤ j - 1 by omega) (by omega)
    rw [show j - 1 + 1 = j by omega, show j - t - 1 + 1 = j - t by omega] at h6
    rw [show i + (t + 1) = i + t + 1 by omega, show j - (t + 1) = j - t - 1 by omega]
    omega
theorem conv_at {a b : List Int} (ha : Up a) (hb : Up b) {i : Nat} (hi : i < a.length) (h0 : 0 < b.length) : ∃ j, j < b.length ∧ ∀ i' j', i' < a.length → j' < b.length → i' + j' = i + j → a.getD i 0 + b.getD j 0 ≤ a.getD i' 0 + b.getD j' 0 := by
  -- the least j behind which the step is no less than the step ahead of i
  have key : ∀ n, n ≤ b.length → (∃ j, j < n ∧ (j + 1 < b.length → 1 ≤ i → a.getD i 0 - a.getD (i - 1) 0 ≤ b.getD (j + 1) 0 - b.getD j 0) ∧ (1 ≤ j → 1 ≤ i ∧ b.getD j 0 - b.getD (j - 1) 0 < a.getD i 0 - a.getD (i - 1) 0)) ∨
      (∀ j, j < n → j + 1 < b.length ∧ 1 ≤ i ∧ b.getD (j + 1) 0 - b.getD j 0 < a.getD i 0 - a.getD (i - 1) 0) := by
    intro n
    induction n with
    | zero => exact fun _ => .inr fun j h => absurd h (Nat.not_lt_zero _)
    | succ n ih =>
      intro hn
      rcases ih (by omega) with ⟨j, h1, h2, h3⟩ | h
      · exact .inl ⟨j, by omega, h2, h3⟩
      · by_cases c : n + 1 < b.length ∧ 1 ≤ i ∧ b.getD (n + 1) 0 - b.getD n 0 < a.getD i 0 - a.getD (i - 1) 0
        · refine .inr fun j hj => ?_
          by_cases e : j < n
          · exact h j e
          · have : j = n := by omega
            subst this
            exact c
        · refine .inl ⟨n, by omega, fun h1 h2 => ?_, fun h1 => ?_⟩
          · have : ¬ (b.getD (n + 1) 0 - b.getD n 0 < a.getD i 0 - a.getD (i - 1) 0) := fun z => c ⟨h1, h2, z⟩
            omega
          · have := h (n - 1) (by omega)
            rw [show n - 1 + 1 = n by omega] at this
            exact ⟨this.2.1, this.2.2⟩
  rcases key b.length (Nat.le_refl _) with ⟨j, h1, h2, h3⟩ | h
  · refine ⟨j, h1, fun i' j' hi' hj' e => ?_⟩
    by_cases c : i ≤ i'
    · have := best_right ha hb (i := i) (j := j) (fun g1 g2 => ?_) h1 (i' - i) (by omega) (by omega)
      · rw [show i + (i' - i) = i' by omega, show j - (i' - i) = j' by omega] at this
        exact this
      · obtain ⟨g3, g4⟩ := h3 g2
        have := up_le ha (show i - 1 ≤ i by omega) g1
        rw [show i - 1 + 1 = i by omega] at this
        omega
    · have := best_right hb ha (i := j) (j := i) (fun g1 g2 => h2 g1 g2) hi (j' - j) (by omega) (by omega)
      rw [show j + (j' - j) = j' by omega, show i - (j' - j) = i' by omega] at this
      omega
  · have := h (b.length - 1) (by omega)
    omega
/-- where both bend up what was joined comes back -/
theorem un_conv {a b s u : List Int} (ha : Up a) (hb : Up b) (h0 : 0 < b.length) (h : Jn a b s) (g : Un s b u) : u = a := by
  have l1 := h.1
  have l2 := g.1
  refine eq_of_at (by omega) fun i x y hx hy => ?_
  have k1 := un_le h g hy hx
  obtain ⟨j, hj, hbest⟩ := conv_at ha hb (at_lt hy) h0
  have li := at_lt hy
  obtain ⟨z, hz⟩ := at_ex (a := s) (i := i + j) (by omega)
  have k2 := g.2.2 i j z _ x hz (dg hj) hx
  obtain ⟨i', j', p, q, e, hp, hq, e2⟩ := h.2.1 _ z hz
  have k3 := hbest i' j' (at_lt hp) (at_lt hq) e
  rw [gd hp, gd hq, gd hy] at k3
  omega
/-- joined in either bracket -/
theorem jn_assoc {a b c ab bc s s' : List Int} (ha : 0 < a.length) (hb : 0 < b.length) (hc : 0 < c.length) (h1 : Jn a b ab) (h2 : Jn ab c s) (h3 : Jn b c bc) (h4 : Jn a bc s') : s = s' := by
  have l1 := h1.1
  have l2 := h2.1
  have l3 := h3.1
  have l4 := h4.1
  refine eq_of_at (by omega) fun m x y hx hy => ?_
  obtain ⟨p, k, u, w, e1, hu, hw, e2⟩ := h2.2.1 m x hx
  obtain ⟨i, j, xa, xb, e3, hxa, hxb, e4⟩ := h1.2.1 p u hu
  have q1 := at_lt hxb
  have q2 := at_lt hw
  obtain ⟨v, hv⟩ := at_ex (a := bc) (i := j + k) (by omega)
  have g1 := h3.2.2 j k xb w v hxb hw hv
  have g2 := h4.2.2 i (j + k) xa v y hxa hv (by rw [show i + (j + k) = m by omega]; exact hy)
  obtain ⟨i', p', xa', v', f1, hxa', hv', f2⟩ := h4.2.1 m y hy
  obtain ⟨j', k', xb', w', f3, hxb', hw', f4⟩ := h3.2.1 p' v' hv'
  have q3 := at_lt hxa'
  have q4 := at_lt hxb'
  obtain ⟨u', hu'⟩ := at_ex (a := ab) (i := i' + j') (by omega)
  have g3 := h1.2.2 i' j' xa' xb' u' hxa' hxb' hu'
  have g4 := h2.2.2 (i' + j') k' u' w' x hu' hw' (by rw [show i' + j' + k' = m by omega]; exact hx)
  omega
end BT

namespace BT
/-- where both bend up the joined row does -/
theorem jn_up {a b s : List Int} (ha : Up a) (hb : Up b) (h : Jn a b s) : Up s := by
  intro k hk
  have l1 := h.1
  obtain ⟨i, j, x, y, e, hx, hy, f⟩ := h.2.1 k _ (dg (show k < s.length by omega))
  obtain ⟨i', j', x', y', e', hx', hy', f'⟩ := h.2.1 (k + 2) _ (dg hk)
  have lx := at_lt hx
  have ly := at_lt hy
  have lx' := at_lt hx'
  have ly' := at_lt hy'
  rw [← gd hx, ← gd hy] at f
  rw [← gd hx', ← gd hy'] at f'
  have up : ∀ p q, p < a.length → q < b.length → p + q = k + 1 → s.getD (k + 1) 0 ≤ a.getD p 0 + b.getD q 0 := fun p q hp hq e =>
    h.2.2 p q _ _ _ (dg hp) (dg hq) (by rw [e]; exact dg (show k + 1 < s.length by omega))
  rcases Nat.lt_trichotomy i' (i + 1) with c | c | c
  · have g1 := up i (j + 1) lx (by omega) (by omega)
    have g2 := up i' (j' - 1) lx' (by omega) (by omega)
    have g3 := up_le hb (show j ≤ j' - 1 by omega) (by omega)
    rw [show j' - 1 + 1 = j' by omega] at g3
    omega
  · have ej : j' = j + 1 := by omega
    subst c ej
    have g1 := up (i + 1) j lx' ly (by omega)
    have g2 := up i (j + 1) lx ly' (by omega)
    omega
  · have g1 := up (i + 1) j (by omega) ly (by omega)
    have g2 := up (i' - 1) j' (by omega) ly' (by omega)
    have g3 := up_le ha (show i ≤ i' - 1 by omega) (by omega)
    rw [show i' - 1 + 1 = i' by omega] at g3
    omega
/-- f is the first i that comes to the sum at k -/
def Fst (a b : List Int) (k f : Nat) : Prop := f ≤ k ∧ f < a.length ∧ k - f < b.length ∧ (∀ i, i ≤ k → i < a.length → k - i < b.length → a.getD f 0 + b.getD (k - f) 0 ≤ a.getD i 0 + b.getD (k - i) 0) ∧ ∀ i, i < f → i < a.length → k - i < b.length → a.getD f 0 + b.getD (k - f) 0 < a.getD i 0 + b.getD (k - i) 0
/-- where other bends up no first is less than the one ahead -/
theorem fst_step {a b : List Int} {k f f' : Nat} (hb : Up b) (h : Fst a b k f) (h' : Fst a b (k + 1) f') : f ≤ f' := by
  obtain ⟨h1, h2, h3, h4, h5⟩ := h
  obtain ⟨g1, g2, g3, g4, g5⟩ := h'
  rcases Nat.lt_or_ge f' f with c | c
  · exfalso
    have k1 := h5 f' c (by omega) (by omega)
    have k2 := g4 f (by omega) h2 (by omega)
    have k3 := up_le hb (show k - f ≤ k - f' by omega) (by omega)
    rw [show k - f + 1 = k + 1 - f by omega, show k - f' + 1 = k + 1 - f' by omega] at k3
    omega
  · exact c
theorem Fst.uniq {a b : List Int} {k f f' : Nat} (h : Fst a b k f) (h' : Fst a b k f') : f = f' := by
  obtain ⟨h1, h2, h3, h4, h5⟩ := h
  obtain ⟨g1, g2, g3, g4, g5⟩ := h'
  have a1 := h4 f' g1 g2 g3
  have a2 := g4 f h1 h2 h3
  rcases Nat.lt_trichotomy f f' with c | c | c
  · have := g5 f c h2 h3; omega
  · exact c
  · have := h5 f' c g2 g3; omega
end BT

namespace BT
/-- two rising rows of steps in one -/
def mg : List Int → List Int → List Int
  | [], b => b
  | x :: xs, [] => x :: xs
  | x :: xs, y :: ys => if x ≤ y then x :: mg xs (y :: ys) else y :: mg (x :: xs) ys
termination_by a b => a.length + b.length
theorem mg_nil (a : List Int) : mg a [] = a := by cases a <;> simp [mg]
theorem mg_perm : ∀ a b : List Int, (mg a b).Perm (a ++ b)
  | [], b => by simp [mg]
  | x :: xs, [] => by simp [mg]
  | x :: xs, y :: ys => by
    unfold mg
    by_cases c : x ≤ y
    · rw [if_pos c]
      exact (mg_perm xs (y :: ys)).cons x
    · rw [if_neg c]
      have h := (mg_perm (x :: xs) ys).cons y
      exact h.trans (List.perm_middle (l₁ := x :: xs) (l₂ := ys) (a := y)).symm
termination_by a b => a.length + b.length
theorem mg_sorted : ∀ a b : List Int, a.Pairwise (· ≤ ·) → b.Pairwise (· ≤ ·) → (mg a b).Pairwise (· ≤ ·)
  | [], b => fun _ h => by simpa [mg] using h
  | x :: xs, [] => fun h _ => by simpa [mg] using h
  | x :: xs, y :: ys => fun ha hb => by
    unfold mg
    have ha' := List.pairwise_cons.mp ha
    have hb' := List.pairwise_cons.mp hb
    by_cases c : x ≤ y
    · rw [if_pos c]
      refine List.pairwise_cons.mpr ⟨fun z hz => ?_, mg_sorted xs (y :: ys) ha'.2 hb⟩
      rcases List.mem_append.mp ((mg_perm xs (y :: ys)).mem_iff.mp hz) with e | e
      · exact ha'.1 z e
      · rcases List.mem_cons.mp e with e | e
        · rw [e]; exact c
        · exact Int.le_trans c (hb'.1 z e)
    · rw [if_neg c]
      refine List.pairwise_cons.mpr ⟨fun z hz => ?_, mg_sorted (x :: xs) ys ha hb'.2⟩
      rcases List.mem_append.mp ((mg_perm (x :: xs) ys).mem_iff.mp hz) with e | e
      · rcases List.mem_cons.mp e with e | e
        · rw [e]; omega
        · have := ha'.1 z e; omega
      · exact hb'.1 z e
termination_by a b => a.length + b.length
theorem mg_att : ∀ (a b : List Int) (k : Nat), k ≤ a.length + b.length → ∃ i j, i ≤ a.length ∧ j ≤ b.length ∧ i + j = k ∧ ((mg a b).take k).sum = (a.take i).sum + (b.take j).sum
  | [], b, k => fun h => ⟨0, k, Nat.le_refl _, by simpa using h, by omega, by simp [mg]⟩
  | x :: xs, [], k => fun h => ⟨k, 0, by simpa using h, Nat.le_refl _, by omega, by simp [mg]⟩
  | x :: xs, y :: ys, 0 => fun h => ⟨0, 0, Nat.zero_le _, Nat.zero_le _, rfl, by simp⟩
  | x :: xs, y :: ys, k + 1 => fun h => by
    unfold mg
    by_cases c : x ≤ y
    · rw [if_pos c]
      obtain ⟨i, j, h1, h2, h3, h4⟩ := mg_att xs (y :: ys) k (by simp at h ⊢; omega)
      refine ⟨i + 1, j, by simpa using h1, h2, by omega, ?_⟩
      rw [List.take_succ_cons, List.take_succ_cons, List.sum_cons, List.sum_cons, h4]
      omega
    · rw [if_neg c]
      obtain ⟨i, j, h1, h2, h3, h4⟩ := mg_att (x :: xs) ys k (by simp at h ⊢; omega)
      refine ⟨i, j + 1, h1, by simpa using h2, by omega, ?_⟩
      rw [List.take_succ_cons, List.take_succ_cons, List.sum_cons, List.sum_cons, h4]
      omega
termination_by a b => a.length + b.length
/-- the first of a rising row and all but the last come to no more than the row -/
theorem take_shift : ∀ (b : List Int) (x : Int) (j : Nat), (∀ z ∈ b, x ≤ z) → j + 1 ≤ b.length → x + (b.take j).sum ≤ (b.take (j + 1)).sum := fun b x j hb hj => by
  rw [List.take_succ, List.sum_append, List.getElem?_eq_getElem (show j < b.length by omega)]
  have := hb _ (List.getElem_mem (show j < b.length by omega))
  simp
  omega
theorem mg_low : ∀ (a b : List Int) (i j : Nat), a.Pairwise (· ≤ ·) → b.Pairwise (· ≤ ·) → i ≤ a.length → j ≤ b.length → ((mg a b).take (i + j)).sum ≤ (a.take i).sum + (b.take j).sum
  | [], b, i, j => fun _ _ h _ => by
    have : i = 0 := by simpa using h
    subst this
    simp [mg]
  | x :: xs, [], i, j => fun _ _ _ h => by
    have : j = 0 := by simpa using h
    subst this
    simp [mg]
  | x :: xs, y :: ys, i, j => fun ha hb hi hj => by
    have ha' := List.pairwise_cons.mp ha
    have hb' := List.pairwise_cons.mp hb
    by_cases z : i + j = 0
    · have e1 : i = 0 := by omega
      have e2 : j = 0 := by omega
      subst e1 e2
      simp
    · obtain ⟨k, hk⟩ : ∃ k, i + j = k + 1 := ⟨i + j - 1, by omega⟩
      unfold mg
      by_cases c : x ≤ y
      · rw [if_pos c, hk, List.take_succ_cons, List.sum_cons]
        cases i with
        | succ i =>
          have h := mg_low xs (y :: ys) i j ha'.2 hb (by simpa using hi) hj
          rw [show i + j = k by omega] at h
          rw [List.take_succ_cons, List.sum_cons]
          omega
        | zero =>
          cases j with
          | zero => omega
          | succ j =>
            have h := mg_low xs (y :: ys) 0 j ha'.2 hb (Nat.zero_le _) (by omega)
            rw [show 0 + j = k by omega] at h
            have h2 := take_shift (y :: ys) x j (fun z hz => by
              rcases List.mem_cons.mp hz with e | e
              · rw [e]; exact c
              · exact Int.le_trans c (hb'.1 z e)) hj
            simp only [List.take_zero, List.sum_nil] at h ⊢
            omega
      · rw [if_neg c, hk, List.take_succ_cons, List.sum_cons]
        cases j with
        | succ j =>
          have h := mg_low (x :: xs) ys i j ha hb'.2 hi (by simpa using hj)
          rw [show i + j = k by omega] at h
          rw [List.take_succ_cons (as := ys), List.sum_cons]
          omega
        | zero =>
          cases i with
          | zero => omega
          | succ i =>
            have h := mg_low (x :: xs) ys i 0 ha hb'.2 (by omega) (Nat.zero_le _)
            rw [show i + 0 = k by omega] at h
            have h2 := take_shift (x :: xs) y i (fun z hz => by
              rcases List.mem_cons.mp hz with e | e
              · rw [e]; omega
              · have := ha'.1 z e; omega) hi
            simp only [List.take_zero, List.sum_nil] at h ⊢
            omega
termination_by a b => a.length + b.length
end BT

namespace BT
/-- the steps of a row -/
def stp : List Int → List Int
  | x :: y :: r => (y - x) :: stp (y :: r)
  | _ => []
theorem stp_len : ∀ a : List Int, (stp a).length = a.length - 1
  | [] => rfl
  | [_] => rfl
  | x :: y :: r => by
    have := stp_len (y :: r)
    simp only [stp, List.length_cons] at this ⊢
    omega
theorem stp_at : ∀ (a : List Int) (i : Nat), i + 1 < a.length → (stp a)[i]? = some (a.getD (i + 1) 0 - a.getD i 0)
  | [], i => fun h => by simp at h
  | [_], i => fun h => by simp at h
  | x :: y :: r, 0 => fun _ => by simp [stp]
  | x :: y :: r, i + 1 => fun h => by
    have := stp_at (y :: r) i (by simpa using h)
    simpa [stp] using this
theorem row_at : ∀ (a : List Int) (i : Nat), i < a.length → a.getD i 0 = a.getD 0 0 + ((stp a).take i).sum
  | [], i => fun h => by simp at h
  | [x], i => fun h => by
    have : i = 0 := by simpa using h
    subst this
    simp
  | x :: y :: r, 0 => fun _ => by simp
  | x :: y :: r, i + 1 => fun h => by
    have := row_at (y :: r) i (by simpa using h)
    simp only [stp, List.take_succ_cons, List.sum_cons, List.getD_cons_succ, List.getD_cons_zero] at this ⊢
    omega
theorem up_sorted {a : List Int} (h : Up a) : (stp a).Pairwise (· ≤ ·) := by
  refine List.pairwise_iff_getElem.mpr fun i j hi hj hij => ?_
  have li := stp_len a
  have e1 := stp_at a i (by omega)
  have e2 := stp_at a j (by omega)
  rw [List.getElem?_eq_getElem hi] at e1
  rw [List.getElem?_eq_getElem hj] at e2
  rw [Option.some.inj e1, Option.some.inj e2]
  exact up_le h (Nat.le_of_lt hij) (by omega)
theorem sorted_up {a : List Int} (h : (stp a).Pairwise (· ≤ ·)) : Up a := by
  intro i hi
  have li := stp_len a
  have e1 := stp_at a i (by omega)
  have e2 := stp_at a (i + 1) (by omega)
  have h1 : i < (stp a).length := by omega
  have h2 : i + 1 < (stp a).length := by omega
  have := List.pairwise_iff_getElem.mp h i (i + 1) h1 h2 (by omega)
  rw [List.getElem?_eq_getElem h1] at e1
  rw [List.getElem?_eq_getElem h2] at e2
  rw [Option.some.inj e1, Option.some.inj e2] at this
  exact this
/-- where both bend up the joined row goes by all steps of both, rising -/
theorem jn_merge {a b s : List Int} (ha : Up a) (hb : Up b) (h0 : 0 < a.length) (h1 : 0 < b.length) (h : Jn a b s) {k : Nat} (hk : k < s.length) : s.getD k 0 = a.getD 0 0 + b.getD 0 0 + ((mg (stp a) (stp b)).take k).sum := by
  have l := h.1
  have la := stp_len a
  have lb := stp_len b
  obtain ⟨i, j, x, y, e, hx, hy, f⟩ := h.2.1 k _ (dg hk)
  have lx := at_lt hx
  have ly := at_lt hy
  have g1 := mg_low (stp a) (stp b) i j (up_sorted ha) (up_sorted hb) (by omega) (by omega)
  rw [e] at g1
  have r1 := row_at a i lx
  have r2 := row_at b j ly
  rw [gd hx] at r1
  rw [gd hy] at r2
  obtain ⟨i', j', p1, p2, p3, p4⟩ := mg_att (stp a) (stp b) k (by omega)
  have q1 := row_at a i' (by omega)
  have q2 := row_at b j' (by omega)
  have q3 := h.2.2 i' j' _ _ _ (dg (show i' < a.length by omega)) (dg (show j' < b.length by omega)) (by rw [p3]; exact dg hk)
  omega
/-- sorted steps of both are these -/
theorem mg_uniq {a b l : List Int} (hl : l.Perm (a ++ b)) (hs : l.Pairwise (· ≤ ·)) (ha : a.Pairwise (· ≤ ·)) (hb : b.Pairwise (· ≤ ·)) : l = mg a b :=
  (hl.trans (mg_perm a b).symm).eq_of_pairwise (fun _ _ _ _ => Int.le_antisymm) hs (mg_sorted a b ha hb)
/-- a row is known by its first number and its steps -/
theorem row_by {s t : List Int} (h0 : s.length = t.length) (h : ∀ k, k < s.length → s.getD k 0 = t.getD k 0) : s = t :=
  eq_of_at h0 fun i x y hx hy => by rw [← gd hx, ← gd hy]; exact h i (at_lt hx)
end BT

namespace BT
open PySem PySem.Spec PyProof.Rows L2 GenW
theorem cut_drop (xs : List V) (n : Nat) : cutV xs (some (n : Int)) none = xs.drop n := by
  by_cases h : n ≤ xs.length
  · exact cut_from xs n h
  · unfold cutV
    rw [show HT.sIx xs.length 0 (some (n : Int)) = min n xs.length from HT.sIx_nat xs.length 0 n, Nat.min_eq_right (by omega), List.drop_length, List.drop_of_length_le (by omega)]
    exact List.take_nil
theorem cut_init (xs : List V) : cutV xs none (some (-1)) = xs.dropLast := by
  unfold cutV
  rw [HT.sIx_none, List.drop_zero, Nat.sub_zero, List.dropLast_eq_take]
  congr 1
  have h := HT.clip_eq (-1) xs.length xs.length
  rw [if_pos (by decide)] at h
  omega
/-- a slice of a tuple, the whole one or a new one -/
theorem slA_any {K : PySem.W.Frag} {H : Hp} {a : Addr} {xs : List V} {lo hi : Option Int} {Q : VK} (h : H a = some (.tup xs)) (q : ∀ p H', H' p = some (.tup (cutV xs lo hi)) → Kp [] H H' → Q (.ref p) H') : rSlA K (.ref a) lo hi H Q := by
  refine ⟨a, xs, rfl, tOf h, fun z => q a H ?_ (Kp.refl H), fun _ p np => q p _ upd_same (Kp.new np)⟩
  unfold cutV
  rw [z.1, z.2, List.drop_zero, Nat.sub_zero, List.take_length]
  exact h
theorem catA_any {K : PySem.W.Frag} {H : Hp} {a b : Addr} {xs ys : List V} {Q : VK} (h : H a = some (.tup xs)) (h' : H b = some (.tup ys)) (hl : xs.length + ys.length ≤ sizeLine) (q : ∀ p H', H' p = some (.tup (xs ++ ys)) → Kp [] H H' → Q (.ref p) H') : rCatA K (.ref a) (.ref b) H Q := by
  refine ⟨a, b, xs, ys, rfl, rfl, tOf h, tOf h', hl, fun e => q b H (by rw [e]; exact h') (Kp.refl H), fun _ e => q a H (by rw [e, List.append_nil]; exact h) (Kp.refl H), fun _ _ p np => q p _ upd_same (Kp.new np)⟩
theorem rep_flat (x : V) : ∀ n : Nat, (List.replicate n [x]).flatten = List.replicate n x
  | 0 => rfl
  | n + 1 => by rw [List.replicate_succ, List.flatten_cons, rep_flat x n, List.replicate_succ]; rfl
theorem repA_any {K : PySem.W.Frag} {H : Hp} {a : Addr} {x : V} {n : Nat} {Q : VK} (h : H a = some (.tup [x])) (h1 : 1 ≤ n) (h2 : n ≤ 1000) (q : ∀ p H', H' p = some (.tup (List.replicate n x)) → Kp [] H H' → Q (.ref p) H') : rRepA K (.ref a) (.int n) H Q := by
  refine ⟨a, n, [x], rfl, rfl, tOf h, by simp, by omega, by omega, (show (1 : Nat) ≤ 1000 by decide), fun e => q a H ?_ (Kp.refl H), fun _ p np => q p _ ?_ (Kp.new np)⟩
  · have : n = 1 := by omega
    rw [this]
    exact h
  · rw [upd_same, show ((n : Nat) : Int).toNat = n from Int.toNat_natCast n]
    rw [rep_flat]
/-! ### comprehensions -/
def LcP (M : List Addr) (H1 : Hp) (D : Addr) (f : Nat → V) (i : Nat) (H : Hp) : Prop := Kp M H1 H ∧ H D = some (.lst ((List.range i).map f))
theorem LcP.zero {M : List Addr} {H1 : Hp} {D : Addr} {f : Nat → V} (nD : H1 D = none) : LcP M H1 D f 0 (upd H1 D (.lst [])) := ⟨Kp.new nD, upd_same⟩
theorem LcP.step {M : List Addr} {H1 H4 : Hp} {D : Addr} {f : Nat → V} {i : Nat} {y : V} (k : Kp M H1 H4) (hD : H4 D = some (.lst ((List.range i).map f))) (hn : i < sizeLine) (nD : H1 D = none) (e : y = f i) :
    ∃ acc, H4 D = some (.lst acc) ∧ acc.length < sizeLine ∧ LcP M H1 D f (i + 1) (upd H4 D (.lst (acc ++ [y]))) := by
  refine ⟨_, hD, by rw [List.length_map, List.length_range]; exact hn, k.mut nD, ?_⟩
  rw [upd_same, List.range_succ, List.map_append, e]
  rfl
/-- drawn numbers -/
def LcE (M : List Addr) (H1 : Hp) (D : Addr) (Iv : Hp → Prop) (R : Int → Prop) (i : Nat) (H : Hp) : Prop := Iv H ∧ Kp M H1 H ∧ ∃ ns : List Int, H D = some (.lst (ns.map V.int)) ∧ ns.length = i ∧ ∀ x ∈ ns, R x
theorem LcE.step {M : List Addr} {H1 H4 : Hp} {D : Addr} {Iv : Hp → Prop} {R : Int → Prop} {i : Nat} {ns : List Int} {y : Int} (iv : ∀ o, Iv (upd H4 D o)) (k : Kp M H1 H4) (hD : H4 D = some (.lst (ns.map V.int))) (hl : ns.length = i) (hR : ∀ x ∈ ns, R x) (hn : i < sizeLine) (nD : H1 D = none) (hy : R y) :
    ∃ acc, H4 D = some (.lst acc) ∧ acc.length < sizeLine ∧ LcE M H1 D Iv R (i + 1) (upd H4 D (.lst (acc ++ [V.int y]))) := by
  refine ⟨_, hD, by rw [List.length_map, hl]; exact hn, iv _, k.mut nD, ns ++ [y], by rw [upd_same, List.map_append]; rfl, by rw [List.length_append, hl]; rfl, fun x hx => ?_⟩
  rcases List.mem_append.mp hx with e | e
  · exact hR x e
  · rw [List.mem_singleton.mp e]; exact hy
theorem gd_left {a b : List Int} {i : Nat} (h : i < a.length) : (a ++ b).getD i 0 = a.getD i 0 := by
  rw [List.getD_eq_getElem?_getD, List.getElem?_append_left h, ← List.getD_eq_getElem?_getD]
theorem gd_last {a : List Int} {x : Int} {i : Nat} (h : i = a.length) : (a ++ [x]).getD i 0 = x := by
  subst h
  rw [List.getD_eq_getElem?_getD, List.getElem?_append_right (Nat.le_refl _), Nat.sub_self]
  rfl
theorem small {n m : Nat} (h : n ≤ m) (hm : m < sizeLine := by decide) : n < sizeLine := Nat.lt_of_le_of_lt h hm
theorem ivAt {xs : List Int} {i : Nat} (h : i < xs.length) : (xs.map V.int)[i]? = some (.int (xs.getD i 0)) := by
  rw [List.getElem?_map, dg h]
  rfl
theorem map_rng (xs : List Int) : (List.range xs.length).map (fun i => V.int (xs.getD i 0)) = xs.map V.int := by
  apply List.ext_getElem?
  intro i
  by_cases h : i < xs.length
  · rw [ivAt h, List.getElem?_map, List.getElem?_range h]
    rfl
  · rw [List.getElem?_eq_none (by simp; omega), List.getElem?_eq_none (by simp; omega)]
theorem map_of {n : Nat} {f : Nat → Int} {xs : List Int} (hl : xs.length = n) (h : ∀ i, i < n → xs.getD i 0 = f i) : (List.range n).map (fun i => V.int (f i)) = xs.map V.int := by
  subst hl
  rw [← map_rng xs]
  apply List.map_congr_left
  intro i hi
  rw [h i (List.mem_range.mp hi)]
theorem map_stp (xs : List Int) : (List.range (xs.length - 1)).map (fun i => V.int (xs.getD (i + 1) 0 - xs.getD i 0)) = (stp xs).map V.int :=
  map_of (stp_len xs) fun i hi => gd (stp_at xs i (by omega))
/-! ### data -/
theorem eqvAll_ints : ∀ as bs : List Int, PyData.eqvAll (as.map PyData.int) (bs.map PyData.int) = decide (as = bs)
  | [], [] => rfl
  | [], _ :: _ => rfl
  | _ :: _, [] => rfl
  | a :: as, b :: bs => by
    have h : PyData.eqvAll ((a :: as).map PyData.int) ((b :: bs).map PyData.int) = (PyData.eqv (.int a) (.int b) && PyData.eqvAll (as.map PyData.int) (bs.map PyData.int)) := rfl
    rw [h, eqvAll_ints as bs]
    have h2 : PyData.eqv (.int a) (.int b) = decide (a = b) := by
      show (a == b) = decide (a = b)
      by_cases c : a = b
      · subst c; simp
      · rw [decide_eq_false c]; exact beq_eq_false_iff_ne.mpr c
    rw [h2]
    simp
theorem eqv_lists (as bs : List Int) : PyData.eqv (.list (as.map PyData.int)) (.list (bs.map PyData.int)) = decide (as = bs) := eqvAll_ints as bs
theorem eqv_tups (as bs : List Int) : PyData.eqv (.tuple (as.map PyData.int)) (.tuple (bs.map PyData.int)) = decide (as = bs) := eqvAll_ints as bs
theorem shaped_tup (ns : List Int) : SeqAt.shaped (.tuple (ns.map PyData.int)) = true := by
  induction ns with
  | nil => rfl
  | cons n r ih => exact ih
theorem sort_iff {ns ns' : List Int} (p : ns'.Perm ns) (s : ns'.Pairwise (· ≤ ·)) : ns = ns' ↔ ns.Pairwise (· ≤ ·) :=
  ⟨fun e => by rw [e]; exact s, fun h => (p.eq_of_pairwise (fun a b _ _ x y => Int.le_antisymm x y) s h).symm⟩
/-! ### rows that bend up, put otherwise -/
theorem up_rev {a : List Int} (h : Up a) : Up a.reverse := by
  intro i hi
  rw [List.length_reverse] at hi
  have g : ∀ j, j < a.length → a.reverse.getD j 0 = a.getD (a.length - 1 - j) 0 := fun j hj => by
    rw [List.getD_eq_getElem?_getD, List.getElem?_reverse hj, ← List.getD_eq_getElem?_getD]
  rw [g _ (by omega), g _ (by omega), g _ (by omega)]
  have z := h (a.length - 1 - (i + 2)) (by omega)
  rw [show a.length - 1 - (i + 2) + 1 = a.length - 1 - (i + 1) by omega, show a.length - 1 - (i + 2) + 2 = a.length - 1 - i by omega] at z
  omega
theorem up_rev_iff {a : List Int} : Up a.reverse ↔ Up a := ⟨fun h => by have := up_rev h; rwa [List.reverse_reverse] at this, up_rev⟩
theorem up_add_iff {a b : List Int} {c : Int} (hl : b.length = a.length) (h : ∀ i, i < a.length → b.getD i 0 = a.getD i 0 + c) : Up b ↔ Up a := by
  constructor
  · intro u i hi
    have z := u i (by omega)
    rw [h _ (by omega), h _ (by omega), h _ (by omega)] at z
    omega
  · intro u i hi
    rw [hl] at hi
    have z := u i hi
    rw [h _ (by omega), h _ (by omega), h _ (by omega)]
    omega
theorem up_take {a : List Int} {n : Nat} (h : Up a) : Up (a.take n) := by
  intro i hi
  rw [List.length_take] at hi
  have g : ∀ j, j < n → (a.take n).getD j 0 = a.getD j 0 := fun j hj => by
    rw [List.getD_eq_getElem?_getD, List.getElem?_take_of_lt hj, ← List.getD_eq_getElem?_getD]
  rw [g _ (by omega), g _ (by omega), g _ (by omega)]
  exact h i (by omega)
theorem up_iff {a : List Int} : Up a ↔ (stp a).Pairwise (· ≤ ·) := ⟨up_sorted, sorted_up⟩
/-! ### the deck and the table of code objects side by side -/
theorem Dl.kpP {d c P : Addr} {H H' : Hp} (D : Dl d c H) (g : TabG H P) (k : Kp [P] H H') : Dl d c H' :=
  D.kp k (fun z => g.ndl D (by rw [← List.mem_singleton.mp z]; exact List.mem_cons_self)) (fun z => g.ndl D (by rw [← List.mem_singleton.mp z]; exact List.mem_cons_of_mem _ (List.mem_singleton.mpr rfl)))
theorem tupP {P a : Addr} {H H' : Hp} {xs : List V} (g : TabG H P) (k : Kp [P] H H') (e : H a = some (.tup xs)) : H' a = some (.tup xs) := k a _ ((NT.tab g).ni e) e
theorem tupD {d c a : Addr} {H H' : Hp} {xs : List V} (D : Dl d c H) (k : Kp [d, c] H H') (e : H a = some (.tup xs)) : H' a = some (.tup xs) := k a _ ((NT.dl D).ni e) e
theorem TabG.kpD {d c P : Addr} {H H' : Hp} (g : TabG H P) (D : Dl d c H) (k : Kp [d, c] H H') : TabG H' P := TabG.kp g k (g.ndl D)
theorem Dl.kp0 {d c : Addr} {H H' : Hp} (D : Dl d c H) (k : Kp [] H H') : Dl d c H' := D.kp k (by simp) (by simp)
theorem TabG.kp0 {P : Addr} {H H' : Hp} (g : TabG H P) (k : Kp [] H H') : TabG H' P := TabG.kp g k (by simp)
theorem sorIK {X : Cx} (K : PySem.W.Frag) (h : X.K = K := by rfl) : CallR X (.builtin "sorted") (rSortedI K) := by subst h; exact cr_sortedI
theorem sumK {X : Cx} (K : PySem.W.Frag) (hc : X.calm = true) (h : X.K = K := by rfl) : CallR X (.builtin "sum") (rSum K) := by subst h; exact cr_sum hc
theorem maxLK {X : Cx} (K : PySem.W.Frag) (hc : X.calm = true) (h : X.K = K := by rfl) : CallR X (.builtin "max") (rMax K) := by subst h; exact cr_max hc
end BT

namespace BT
open PySem PySem.Spec PyProof.Rows L2 GenW
/-! ### min of a list of pairs -/
def PrsAt (H : Hp) (ts : List Addr) (zs : List (Int × Int)) : Prop := ts.length = zs.length ∧ ∀ (i : Nat) t z, ts[i]? = some t → zs[i]? = some z → H t = some (.tup [.int z.1, .int z.2])
theorem PrsAt.nil {H : Hp} : PrsAt H [] [] := ⟨rfl, fun i t z e => by simp at e⟩
theorem PrsAt.kp {M : List Addr} {H H' : Hp} {ts : List Addr} {zs : List (Int × Int)} (h : PrsAt H ts zs) (k : Kp M H H') (n : NT M H) : PrsAt H' ts zs := ⟨h.1, fun i t z e1 e2 => k _ _ (n.ni (h.2 i t z e1 e2)) (h.2 i t z e1 e2)⟩
theorem PrsAt.push {H : Hp} {ts : List Addr} {zs : List (Int × Int)} {t : Addr} {z : Int × Int} (h : PrsAt H ts zs) (e : H t = some (.tup [.int z.1, .int z.2])) : PrsAt H (ts ++ [t]) (zs ++ [z]) := by
  refine ⟨by rw [List.length_append, List.length_append, h.1]; rfl, fun i t' z' e1 e2 => ?_⟩
  by_cases c : i < ts.length
  · rw [List.getElem?_append_left c] at e1
    rw [List.getElem?_append_left (by rw [← h.1]; exact c)] at e2
    exact h.2 i t' z' e1 e2
  · have hl := (List.getElem?_eq_some_iff.mp e1).1
    rw [List.length_append] at hl
    have ei : i = ts.length := by simp at hl; omega
    subst ei
    rw [List.getElem?_append_right (Nat.le_refl _), Nat.sub_self] at e1
    rw [List.getElem?_append_right (by rw [h.1]; exact Nat.le_refl _), h.1, Nat.sub_self] at e2
    cases e1
    cases e2
    exact e
theorem PrsAt.upL {H : Hp} {ts : List Addr} {zs : List (Int × Int)} {D : Addr} {ys : List V} {o : HO} (h : PrsAt H ts zs) (e : H D = some (.lst ys)) : PrsAt (upd H D o) ts zs := ⟨h.1, fun i t z e1 e2 => by
  rw [upd_ne (fun c => by have q := h.2 i t z e1 e2; rw [c, e] at q; cases q)]
  exact h.2 i t z e1 e2⟩
theorem dpAll_prs {K : PySem.W.Frag} {H : Hp} : ∀ (ts : List Addr) (zs : List (Int × Int)), PrsAt H ts zs → DpAll K H (ts.map V.ref) (zs.map (PySem.W.Datum.toD (α := Int × Int)))
  | [], [], _ => .nil
  | [], _ :: _, h => absurd h.1 (by simp)
  | _ :: _, [], h => absurd h.1 (by simp)
  | t :: ts, z :: zs, h => .cons (.tup (tOf (h.2 0 t z rfl rfl)) (.cons (.int _) (.cons (.int _) .nil))) (dpAll_prs ts zs ⟨by have := h.1; simp at this; exact this, fun i t' z' e1 e2 => h.2 (i + 1) t' z' e1 e2⟩)
def LxLe (z y : Int × Int) : Prop := z.1 < y.1 ∨ (z.1 = y.1 ∧ z.2 ≤ y.2)
theorem LxLe.refl (z : Int × Int) : LxLe z z := .inr ⟨rfl, Int.le_refl _⟩
theorem LxLe.trans {x y z : Int × Int} (a : LxLe x y) (b : LxLe y z) : LxLe x z := by unfold LxLe at *; omega
theorem lt_pair (y a : Int × Int) : PySem.W.DatumOrd.lt y a = (if y.1 = a.1 then decide (y.2 < a.2) else decide (y.1 < a.1)) := rfl
theorem minOf_le : ∀ (zs : List (Int × Int)) (z : Int × Int), LxLe (PySem.W.minOf z zs) z ∧ ∀ y ∈ zs, LxLe (PySem.W.minOf z zs) y
  | [], z => ⟨LxLe.refl z, fun y h => by cases h⟩
  | x :: zs, z => by
    have e : PySem.W.minOf z (x :: zs) = PySem.W.minOf (if PySem.W.DatumOrd.lt x z = true then x else z) zs := rfl
    rw [e]
    obtain ⟨h1, h2⟩ := minOf_le zs (if PySem.W.DatumOrd.lt x z = true then x else z)
    have hx : LxLe (if PySem.W.DatumOrd.lt x z = true then x else z) z ∧ LxLe (if PySem.W.DatumOrd.lt x z = true then x else z) x := by
      rw [lt_pair]
      unfold LxLe
      by_cases c : x.1 = z.1
      · rw [if_pos c]
        by_cases c2 : x.2 < z.2
        · rw [decide_eq_true c2, if_pos rfl]; omega
        · rw [decide_eq_false c2, if_neg (by decide)]; omega
      · rw [if_neg c]
        by_cases c2 : x.1 < z.1
        · rw [decide_eq_true c2, if_pos rfl]; omega
        · rw [decide_eq_false c2, if_neg (by decide)]; omega
    refine ⟨h1.trans hx.1, fun y hy => ?_⟩
    rcases List.mem_cons.mp hy with c | c
    · rw [c]; exact h1.trans hx.2
    · exact h2 y c
def rMinP (K : PySem.W.Frag) : List V → Hp → VK → Prop := fun vs H Q => ∃ (a : Addr) (ts : List Addr) (zs : List (Int × Int)), vs = [V.ref a] ∧ SqL K H a (ts.map V.ref) ∧ PrsAt H ts zs ∧ 0 < zs.length ∧
  ∀ (i : Nat) t z, ts[i]? = some t → zs[i]? = some z → (∀ y ∈ zs, LxLe z y) → Q (.ref t) H
theorem toD_inj {z y : Int × Int} (h : PySem.W.Datum.toD z = PySem.W.Datum.toD y) : z = y := by
  have h' : PyData.tuple [.int z.1, .int z.2] = PyData.tuple [.int y.1, .int y.2] := h
  cases z
  cases y
  cases h'
  rfl
theorem vals_refs : ∀ (ts : List Addr) (us : List Value), Vals (ts.map V.ref) us → us = ts.map Value.ref
  | [], _, .nil => rfl
  | t :: ts, _, .cons r h => by
    rw [vals_refs ts _ h]
    cases r
    rfl
theorem minPK {X : Cx} (K : PySem.W.Frag) (hc : X.calm = true) (hu : X.A.units + 64 < cLine) (h : X.K = K := by rfl) : CallR X (.builtin "min") (rMinP K) := by
  subst h
  intro pins s σ H vs us Q I r h
  obtain ⟨a, ts, zs, rfl, hs, hp, hne, q⟩ := h
  obtain ⟨its, rv, ht, _⟩ := I.list hs
  rw [Vals.ref1 r]
  obtain ⟨as, rs⟩ := Dp.readsAll I (zs.map (PySem.W.Datum.toD (α := Int × Int))) _ _ (dpAll_prs ts zs hp) rv
  have ei := vals_refs ts its rv
  cases zs with
  | nil => cases hne
  | cons z0 zr =>
    refine PySem.W.min_list_data (vs := its.toArray) (x := PySem.W.Datum.toD z0) (xs := zr.map PySem.W.Datum.toD) (as := as) (I.ok.hd hc) ht.isList (by simpa using rs) (PySem.W.alikeAll_datum (α := Int × Int) (z0 :: zr)) (PySem.W.room_all (PySem.W.depthAll_map (α := Int × Int) (z0 :: zr)) ?_) fun i v h' tk bs hi rr hk => ?_
    · show X.A.units + 1 + _ < cLine
      have : PySem.W.Datum.depth (Int × Int) ≤ 10 := by decide
      omega
    · rw [PySem.W.minD_map (α := Int × Int)] at rr
      have hi2 : its[i]? = some v := by simpa using hi
      rw [ei, List.getElem?_map] at hi2
      cases hti : ts[i]? with
      | none => rw [hti] at hi2; cases hi2
      | some t =>
        rw [hti] at hi2
        cases hi2
        have hil : i < (z0 :: zr).length := by rw [← hp.1]; exact (List.getElem?_eq_some_iff.mp hti).1
        have hzi : (z0 :: zr)[i]? = some (z0 :: zr)[i] := List.getElem?_eq_getElem hil
        obtain ⟨bs2, r2, _⟩ := PySem.W.readsAll_atA (vs := its.toArray) (by simpa using rs) i (.ref t) (by simpa using hi)
        have r3 := PySem.W.reads_keeps hk r2
        have ed : ((z0 :: zr).map (PySem.W.Datum.toD (α := Int × Int))).getD i .none = PySem.W.Datum.toD ((z0 :: zr)[i]) := by
          rw [List.getD_eq_getElem?_getD, List.getElem?_map, hzi]
          rfl
        have r4 : Reads h' (.ref t) (PySem.W.Datum.toD ((z0 :: zr)[i])) bs2 := by rw [← ed]; exact r3
        have eu : PySem.W.Datum.toD ((z0 :: zr)[i]) = PySem.W.Datum.toD (PySem.W.minOf z0 zr) := (PySem.Reads.unique r4 _ _ rr).1
        have em := toD_inj eu
        obtain ⟨m1, m2⟩ := minOf_le zr z0
        refine ⟨.ref t, H, I.kept hk, rfl, q i t _ hti hzi fun y hy => ?_⟩
        rw [em]
        rcases List.mem_cons.mp hy with c | c
        · rw [c]; exact m1
        · exact m2 y c
end BT
namespace BT
open PySem PySem.Spec PyProof.Rows L2 GenW
/-! ### several tables of code objects -/
def TbG (Ps : List Addr) (H : Hp) : Prop := ∀ P ∈ Ps, TabG H P
theorem TbG.kp {Ps M : List Addr} {H H' : Hp} (g : TbG Ps H) (k : Kp M H H') (hm : ∀ P ∈ Ps, P ∉ M) : TbG Ps H' := fun P hP => TabG.kp (g P hP) k (hm P hP)
theorem TbG.kp0 {Ps : List Addr} {H H' : Hp} (g : TbG Ps H) (k : Kp [] H H') : TbG Ps H' := g.kp k (by simp)
theorem TbG.tabbed {Ps : List Addr} {P : Addr} {H H' : Hp} (g : TbG Ps H) (hP : P ∈ Ps) (tb : Tabbed P H H') : TbG Ps H' ∧ Kp Ps H H' := by
  refine ⟨fun P' h' => ?_, (Tabbed.kp tb).mono fun p hp => by rw [List.mem_singleton.mp hp]; exact hP⟩
  by_cases c : P' = P
  · rw [c]; exact tb.1
  · exact TabG.kp (g P' h') (Tabbed.kp tb) (fun z => c (List.mem_singleton.mp z))
theorem TbG.nt {Ps : List Addr} {H : Hp} (g : TbG Ps H) : NT Ps H := fun m hm xs z => by
  obtain ⟨ps, hp, _⟩ := g m hm
  rw [hp] at z
  cases z
theorem TbG.nl {Ps : List Addr} {H : Hp} (g : TbG Ps H) {a : Addr} {xs : List V} (e : H a = some (.lst xs)) : a ∉ Ps := fun hm => by
  obtain ⟨ps, hp, _⟩ := g a hm
  rw [hp] at e
  cases e
theorem TbG.nn {Ps : List Addr} {H : Hp} (g : TbG Ps H) {a : Addr} (e : H a = none) : a ∉ Ps := fun hm => by
  obtain ⟨ps, hp, _⟩ := g a hm
  rw [hp] at e
  cases e
theorem tupT {Ps : List Addr} {a : Addr} {H H' : Hp} {xs : List V} (g : TbG Ps H) (k : Kp Ps H H') (e : H a = some (.tup xs)) : H' a = some (.tup xs) := k a _ (g.nt.ni e) e
theorem lstT {Ps : List Addr} {a : Addr} {H H' : Hp} {xs : List V} (g : TbG Ps H) (k : Kp Ps H H') (e : H a = some (.lst xs)) : H' a = some (.lst xs) := k a _ (g.nl e) e
theorem Dl.kpT {d c : Addr} {Ps : List Addr} {H H' : Hp} (D : Dl d c H) (g : TbG Ps H) (k : Kp Ps H H') : Dl d c H' := by
  obtain ⟨cs, sd, a, h1, h2, h3⟩ := D
  exact ⟨cs, sd, a, lstT g k h1, lstT g k h2, h3⟩
theorem TbG.kpD {d c : Addr} {Ps : List Addr} {H H' : Hp} (g : TbG Ps H) (D : Dl d c H) (k : Kp [d, c] H H') : TbG Ps H' := fun P hP => TabG.kpD (g P hP) D k
/-! ### tuple(..) over a generator expression, all known ahead -/
def TgP (M : List Addr) (H2 : Hp) (f : Nat → V) (us : List V) (H : Hp) : Prop := Kp M H2 H ∧ us = (List.range us.length).map f
theorem TgP.zero {M : List Addr} {H2 : Hp} {f : Nat → V} : TgP M H2 f [] H2 := ⟨Kp.refl _, rfl⟩
theorem TgP.step {M : List Addr} {H2 H4 : Hp} {f : Nat → V} {us : List V} {y : V} {n : Nat} (k : Kp M H2 H4) (hu : us = (List.range us.length).map f) (hl : us.length < n) (hn : n < sizeLine) (e : y = f us.length) :
    us.length < sizeLine ∧ (us ++ [y]).length ≤ n ∧ TgP M H2 f (us ++ [y]) H4 := by
  refine ⟨by omega, by rw [List.length_append]; exact hl, k, ?_⟩
  rw [List.length_append]
  show us ++ [y] = (List.range (us.length + 1)).map f
  rw [List.range_succ, List.map_append, ← hu, e]
  rfl
/-! ### joined rows -/
theorem first_min (F : Nat → Int) : ∀ c : Nat, 0 < c → ∃ i, i < c ∧ (∀ j, j < c → F i ≤ F j) ∧ ∀ j, j < i → F i < F j
  | 0, h => absurd h (Nat.lt_irrefl _)
  | 1, _ => ⟨0, Nat.one_pos, fun j hj => by have : j = 0 := by omega
                                            subst this; exact Int.le_refl _, fun j hj => absurd hj (Nat.not_lt_zero _)⟩
  | c + 2, _ => by
    obtain ⟨i, h1, h2, h3⟩ := first_min F (c + 1) (by omega)
    by_cases h : F (c + 1) < F i
    · refine ⟨c + 1, by omega, fun j hj => ?_, fun j hj => ?_⟩
      · by_cases e : j = c + 1
        · rw [e]; exact Int.le_refl _
        · have := h2 j (by omega); omega
      · have := h2 j (by omega); omega
    · refine ⟨i, by omega, fun j hj => ?_, h3⟩
      by_cases e : j = c + 1
      · rw [e]; omega
      · exact h2 j (by omega)
theorem fst_of {a b : List Int} {k s c i : Nat} (ha : 0 < a.length) (hb : 0 < b.length) (hk : k + 1 < a.length + b.length) (hs : s = k + 1 - b.length) (hc : s + c = min k (a.length - 1) + 1) (hi : i < c)
    (h1 : ∀ j, j < c → a.getD (s + i) 0 + b.getD (k - (s + i)) 0 ≤ a.getD (s + j) 0 + b.getD (k - (s + j)) 0) (h2 : ∀ j, j < i → a.getD (s + i) 0 + b.getD (k - (s + i)) 0 < a.getD (s + j) 0 + b.getD (k - (s + j)) 0) : Fst a b k (s + i) := by
  refine ⟨by omega, by omega, by omega, fun j g1 g2 g3 => ?_, fun j g1 g2 g3 => ?_⟩
  · have := h1 (j - s) (by omega)
    rwa [show s + (j - s) = j by omega] at this
  · have := h2 (j - s) (by omega)
    rwa [show s + (j - s) = j by omega] at this
theorem fst_ex {a b : List Int} {k : Nat} (ha : 0 < a.length) (hb : 0 < b.length) (hk : k + 1 < a.length + b.length) : ∃ f, Fst a b k f := by
  obtain ⟨i, h1, h2, h3⟩ := first_min (fun i => a.getD (k + 1 - b.length + i) 0 + b.getD (k - (k + 1 - b.length + i)) 0) (min k (a.length - 1) + 1 - (k + 1 - b.length)) (by omega)
  exact ⟨_, fst_of ha hb hk rfl (by omega) h1 h2 h3⟩
noncomputable def fi (a b : List Int) (k : Nat) : Nat := Classical.epsilon (Fst a b k)
theorem fi_spec {a b : List Int} {k : Nat} (ha : 0 < a.length) (hb : 0 < b.length) (hk : k + 1 < a.length + b.length) : Fst a b k (fi a b k) := Classical.epsilon_spec (fst_ex ha hb hk)
theorem fi_eq {a b : List Int} {k f : Nat} (h : Fst a b k f) : fi a b k = f := Fst.uniq (Classical.epsilon_spec ⟨f, h⟩) h
noncomputable def sm (a b : List Int) (k : Nat) : Int := a.getD (fi a b k) 0 + b.getD (k - fi a b k) 0
noncomputable def jsum (a b : List Int) : List Int := (List.range (a.length + b.length - 1)).map (sm a b)
noncomputable def jfst (a b : List Int) : List Int := (List.range (a.length + b.length - 1)).map fun k => (fi a b k : Int)
theorem jsum_len (a b : List Int) : (jsum a b).length = a.length + b.length - 1 := by unfold jsum; rw [List.length_map, List.length_range]
theorem jfst_len (a b : List Int) : (jfst a b).length = a.length + b.length - 1 := by unfold jfst; rw [List.length_map, List.length_range]
theorem jsum_at {a b : List Int} {k : Nat} (h : k < a.length + b.length - 1) : (jsum a b)[k]? = some (sm a b k) := by
  unfold jsum
  rw [List.getElem?_map, List.getElem?_range h]
  rfl
theorem jfst_at {a b : List Int} {k : Nat} (h : k < a.length + b.length - 1) : (jfst a b)[k]? = some (fi a b k : Int) := by
  unfold jfst
  rw [List.getElem?_map, List.getElem?_range h]
  rfl
theorem jsum_jn {a b : List Int} (ha : 0 < a.length) (hb : 0 < b.length) : Jn a b (jsum a b) := by
  refine ⟨by rw [jsum_len]; omega, fun k z hz => ?_, fun i j x y z hx hy hz => ?_⟩
  · have hk := at_lt hz
    rw [jsum_len] at hk
    rw [jsum_at hk] at hz
    obtain ⟨f1, f2, f3, _, _⟩ := fi_spec ha hb (k := k) (by omega)
    exact ⟨fi a b k, k - fi a b k, _, _, by omega, dg f2, dg f3, (Option.some.inj hz).symm⟩
  · have hk := at_lt hz
    rw [jsum_len] at hk
    rw [jsum_at hk] at hz
    obtain ⟨f1, f2, f3, f4, _⟩ := fi_spec ha hb (k := i + j) (by omega)
    have h1 := at_lt hx
    have h2 := at_lt hy
    have := f4 i (by omega) h1 (by omega)
    rw [show i + j - i = j by omega, gd hx, gd hy] at this
    rw [← Option.some.inj hz]
    exact this
theorem jn_eq {a b s : List Int} (ha : 0 < a.length) (hb : 0 < b.length) (h : Jn a b s) : s = jsum a b := Jn.uniq h (jsum_jn ha hb)
end BT
namespace BT
open PySem PySem.Spec PyProof.Rows L2 GenW
/-- tuples of whole numbers, each of which R holds -/
def RwAt (H : Hp) (ps : List Addr) (R : List Int → Prop) : Prop := ∀ b ∈ ps, ∃ xs : List Int, H b = some (.tup (xs.map V.int)) ∧ R xs
theorem RwAt.nil {H : Hp} {R : List Int → Prop} : RwAt H [] R := fun b h => by cases h
theorem RwAt.kp {M : List Addr} {H H' : Hp} {ps : List Addr} {R : List Int → Prop} (h : RwAt H ps R) (k : Kp M H H') (n : NT M H) : RwAt H' ps R := fun b hb => by
  obtain ⟨xs, e, r⟩ := h b hb
  exact ⟨xs, k _ _ (n.ni e) e, r⟩
theorem RwAt.upL {H : Hp} {ps : List Addr} {R : List Int → Prop} {D : Addr} {ys : List V} {o : HO} (h : RwAt H ps R) (e : H D = some (.lst ys)) : RwAt (upd H D o) ps R := fun b hb => by
  obtain ⟨xs, e', r⟩ := h b hb
  exact ⟨xs, by rw [upd_ne (fun c => by rw [c, e] at e'; cases e')]; exact e', r⟩
theorem RwAt.push {H : Hp} {ps : List Addr} {R : List Int → Prop} {p : Addr} {xs : List Int} (h : RwAt H ps R) (e : H p = some (.tup (xs.map V.int))) (r : R xs) : RwAt H (ps ++ [p]) R := fun b hb => by
  rcases List.mem_append.mp hb with z | z
  · exact h b z
  · rw [List.mem_singleton.mp z]; exact ⟨xs, e, r⟩
theorem ivs_at {ns : List Int} {i : Nat} {v : V} (h : (ns.map V.int)[i]? = some v) : ∃ n, v = .int n ∧ n ∈ ns := by
  rw [List.getElem?_map] at h
  cases e : ns[i]? with
  | none => rw [e] at h; cases h
  | some n => rw [e] at h; exact ⟨n, (Option.some.inj h).symm, List.mem_of_getElem? e⟩
end BT

namespace BT
/-! ### joined rows, put otherwise -/
def Vl (a b : List Int) (k i : Nat) : Prop := i ≤ k ∧ i < a.length ∧ k - i < b.length
def SS (a b : List Int) (k i : Nat) : Int := a.getD i 0 + b.getD (k - i) 0
section
variable {a b : List Int} (ha : 0 < a.length) (hb : 0 < b.length)
include ha hb
theorem fi_vl {k : Nat} (hk : k + 1 < a.length + b.length) : Vl a b k (fi a b k) := by
  obtain ⟨h1, h2, h3, _⟩ := fi_spec ha hb hk
  exact ⟨h1, h2, h3⟩
theorem sm_le {k i : Nat} (hk : k + 1 < a.length + b.length) (v : Vl a b k i) : sm a b k ≤ SS a b k i := by
  obtain ⟨_, _, _, h, _⟩ := fi_spec ha hb hk
  exact h i v.1 v.2.1 v.2.2
theorem sm_eq {k i : Nat} {z : Int} (hk : k + 1 < a.length + b.length) (v : Vl a b k i) (e : z = SS a b k i) (h : ∀ j, Vl a b k j → z ≤ SS a b k j) : sm a b k = z := by
  have h1 := sm_le ha hb hk v
  have h2 := h _ (fi_vl ha hb hk)
  have h3 : sm a b k = SS a b k (fi a b k) := rfl
  omega
theorem fi_of {k f : Nat} (hk : k + 1 < a.length + b.length) (v : Vl a b k f) (e : SS a b k f = sm a b k) (h : ∀ j, j < f → Vl a b k j → SS a b k j ≠ sm a b k) : fi a b k = f := by
  refine fi_eq ⟨v.1, v.2.1, v.2.2, fun i h1 h2 h3 => ?_, fun i h1 h2 h3 => ?_⟩
  · have := sm_le ha hb hk ⟨h1, h2, h3⟩
    unfold SS at e this
    omega
  · have v2 : Vl a b k i := ⟨by have := v.1; omega, h2, h3⟩
    have h4 := sm_le ha hb hk v2
    have h5 := h i h1 v2
    unfold SS at e h4 h5
    omega
theorem fi_no {k j : Nat} (hk : k + 1 < a.length + b.length) (h : j < fi a b k) (v : Vl a b k j) : SS a b k j ≠ sm a b k := by
  obtain ⟨_, _, _, _, h5⟩ := fi_spec ha hb hk
  have := h5 j h v.2.1 v.2.2
  show a.getD j 0 + b.getD (k - j) 0 ≠ a.getD (fi a b k) 0 + b.getD (k - fi a b k) 0
  omega
theorem sm_comm {k : Nat} (hk : k + 1 < a.length + b.length) : sm b a k = sm a b k := by
  have v := fi_vl ha hb hk
  have e : ∀ i, Vl a b k i → SS b a k (k - i) = SS a b k i := fun i v => by
    unfold SS
    rw [show k - (k - i) = i by have := v.1; omega]
    omega
  refine sm_eq hb ha (i := k - fi a b k) (by omega) ⟨by omega, v.2.2, by have := v.1; have := v.2.1; omega⟩ (e _ v).symm fun j vj => ?_
  have v2 : Vl a b k (k - j) := ⟨by omega, vj.2.2, by have := vj.1; have := vj.2.1; omega⟩
  have h1 := sm_le ha hb hk v2
  rw [← e _ v2, show k - (k - j) = j by have := vj.1; omega] at h1
  exact h1
end
def La (a b : List Int) (k l : Nat) : Prop := Vl a b k l ∧ SS a b k l = sm a b k ∧ ∀ i, l < i → Vl a b k i → SS a b k i ≠ sm a b k
theorem La.uniq {a b : List Int} {k l l' : Nat} (h : La a b k l) (h' : La a b k l') : l = l' := by
  obtain ⟨v, e, m⟩ := h
  obtain ⟨v', e', m'⟩ := h'
  rcases Nat.lt_trichotomy l l' with c | c | c
  · exact (m l' c v' e').elim
  · exact c
  · exact (m' l c v e).elim
section
variable {a b : List Int} (ha : 0 < a.length) (hb : 0 < b.length)
include ha hb
theorem la_fi {k : Nat} (hk : k + 1 < a.length + b.length) : La a b k (k - fi b a k) := by
  have hk' : k + 1 < b.length + a.length := by omega
  have v := fi_vl hb ha hk'
  have e : ∀ i, Vl b a k i → SS a b k (k - i) = SS b a k i := fun i v => by
    unfold SS
    rw [show k - (k - i) = i by have := v.1; omega]
    omega
  refine ⟨⟨by omega, v.2.2, by have := v.1; have := v.2.1; omega⟩, ?_, fun i hi vi => ?_⟩
  · rw [e _ v, ← sm_comm ha hb hk]
    rfl
  · have v2 : Vl b a k (k - i) := ⟨by omega, vi.2.2, by have := vi.1; have := vi.2.1; omega⟩
    have h1 := fi_no hb ha hk' (j := k - i) (by have := vi.1; have := v.1; omega) v2
    rw [sm_comm ha hb hk, ← e _ v2, show k - (k - i) = i by have := vi.1; omega] at h1
    exact h1
theorem rev_ss {k i : Nat} (hk : k + 1 < a.length + b.length) (v : Vl a.reverse b.reverse (a.length + b.length - 2 - k) i) : Vl a b k (a.length - 1 - i) ∧ SS a b k (a.length - 1 - i) = SS a.reverse b.reverse (a.length + b.length - 2 - k) i := by
  obtain ⟨v1, v2, v3⟩ := v
  rw [List.length_reverse] at v2 v3
  refine ⟨⟨by omega, by omega, by omega⟩, ?_⟩
  unfold SS
  have g : ∀ (l : List Int) j, j < l.length → l.reverse.getD j 0 = l.getD (l.length - 1 - j) 0 := fun l j hj => by
    rw [List.getD_eq_getElem?_getD, List.getElem?_reverse hj, ← List.getD_eq_getElem?_getD]
  rw [g a i v2, g b _ v3, show b.length - 1 - (a.length + b.length - 2 - k - i) = k - (a.length - 1 - i) by omega]
theorem rev_ss' {k i : Nat} (hk : k + 1 < a.length + b.length) (v : Vl a b k i) : Vl a.reverse b.reverse (a.length + b.length - 2 - k) (a.length - 1 - i) := by
  obtain ⟨v1, v2, v3⟩ := v
  refine ⟨by omega, by rw [List.length_reverse]; omega, by rw [List.length_reverse]; omega⟩
theorem rev_sm {k : Nat} (hk : k + 1 < a.length + b.length) : sm a.reverse b.reverse (a.length + b.length - 2 - k) = sm a b k := by
  have hk' : a.length + b.length - 2 - k + 1 < a.reverse.length + b.reverse.length := by rw [List.length_reverse, List.length_reverse]; omega
  have v := fi_vl (a := a.reverse) (b := b.reverse) (by rw [List.length_reverse]; exact ha) (by rw [List.length_reverse]; exact hb) hk'
  obtain ⟨w1, w2⟩ := rev_ss ha hb hk v
  refine (sm_eq ha hb hk w1 (z := sm a.reverse b.reverse (a.length + b.length - 2 - k)) w2.symm fun j vj => ?_).symm
  have v2 := rev_ss' ha hb hk vj
  have h1 := sm_le (a := a.reverse) (b := b.reverse) (by rw [List.length_reverse]; exact ha) (by rw [List.length_reverse]; exact hb) hk' v2
  rw [← (rev_ss ha hb hk v2).2, show a.length - 1 - (a.length - 1 - j) = j by have := vj.2.1; omega] at h1
  exact h1
theorem rev_la {k : Nat} (hk : k + 1 < a.length + b.length) : La a b k (a.length - 1 - fi a.reverse b.reverse (a.length + b.length - 2 - k)) := by
  have hk' : a.length + b.length - 2 - k + 1 < a.reverse.length + b.reverse.length := by rw [List.length_reverse, List.length_reverse]; omega
  have ha' : 0 < a.reverse.length := by rw [List.length_reverse]; exact ha
  have hb' : 0 < b.reverse.length := by rw [List.length_reverse]; exact hb
  have v := fi_vl ha' hb' hk'
  obtain ⟨w1, w2⟩ := rev_ss ha hb hk v
  refine ⟨w1, ?_, fun i hi vi => ?_⟩
  · rw [w2, ← rev_sm ha hb hk]; rfl
  · have v2 := rev_ss' ha hb hk vi
    have f2 := v.2.1
    rw [List.length_reverse] at f2
    have h1 := fi_no ha' hb' hk' (j := a.length - 1 - i) (by have := vi.2.1; omega) v2
    rw [← (rev_ss ha hb hk v2).2, rev_sm ha hb hk, show a.length - 1 - (a.length - 1 - i) = i by have := vi.2.1; omega] at h1
    exact h1
end
theorem mv_at {a : List Int} {c : Int} {i : Nat} (h : i < a.length) : (a.map (· + c)).getD i 0 = a.getD i 0 + c := gd (by rw [List.getElem?_map, dg h]; rfl)
section
variable {a b : List Int} (ha : 0 < a.length) (hb : 0 < b.length) (c : Int)
include ha hb
theorem mv_ss {k i : Nat} (v : Vl a b k i) : SS (a.map (· + c)) b k i = SS a b k i + c := by
  unfold SS
  rw [mv_at v.2.1]
  omega
theorem mv_sm {k : Nat} (hk : k + 1 < a.length + b.length) : sm (a.map (· + c)) b k = sm a b k + c := by
  have ha' : 0 < (a.map (· + c)).length := by rw [List.length_map]; exact ha
  have v := fi_vl ha hb hk
  refine sm_eq ha' hb (i := fi a b k) (by rw [List.length_map]; exact hk) ⟨v.1, by rw [List.length_map]; exact v.2.1, v.2.2⟩ (by rw [mv_ss ha hb c v]; rfl) fun j vj => ?_
  have vj' : Vl a b k j := ⟨vj.1, by have := vj.2.1; rw [List.length_map] at this; exact this, vj.2.2⟩
  have := sm_le ha hb hk vj'
  rw [mv_ss ha hb c vj']
  omega
theorem mv_fi {k : Nat} (hk : k + 1 < a.length + b.length) : fi (a.map (· + c)) b k = fi a b k := by
  have ha' : 0 < (a.map (· + c)).length := by rw [List.length_map]; exact ha
  have v := fi_vl ha hb hk
  refine fi_of ha' hb (by rw [List.length_map]; exact hk) ⟨v.1, by rw [List.length_map]; exact v.2.1, v.2.2⟩ (by rw [mv_ss ha hb c v, mv_sm ha hb c hk]; rfl) fun j hj vj => ?_
  have vj' : Vl a b k j := ⟨vj.1, by have := vj.2.1; rw [List.length_map] at this; exact this, vj.2.2⟩
  have := fi_no ha hb hk hj vj'
  rw [mv_ss ha hb c vj', mv_sm ha hb c hk]
  omega
theorem mv_jsum : jsum (a.map (· + c)) b = (jsum a b).map (· + c) := by
  unfold jsum
  rw [List.length_map, List.map_map]
  apply List.map_congr_left
  intro k hk
  have := List.mem_range.mp hk
  exact mv_sm ha hb c (by omega)
theorem mv_jfst : jfst (a.map (· + c)) b = jfst a b := by
  unfold jfst
  rw [List.length_map]
  apply List.map_congr_left
  intro k hk
  have := List.mem_range.mp hk
  rw [mv_fi ha hb c (by omega)]
end
section
variable {a : List Int} (ha : 0 < a.length) (c : Int)
include ha
theorem one_fi {k : Nat} (hk : k < a.length) : fi a [c] k = k := by
  have v := fi_vl (b := [c]) ha (by simp) (k := k) (by simp; omega)
  have v1 := v.1
  have v3 := v.2.2
  simp at v3
  omega
theorem one_jsum : jsum a [c] = a.map (· + c) := by
  refine row_by (by rw [jsum_len, List.length_map]; simp) fun k hk => ?_
  rw [jsum_len] at hk
  have hk' : k < a.length := by simpa using hk
  rw [gd (jsum_at hk), mv_at hk']
  unfold sm
  rw [one_fi ha c hk', Nat.sub_self]
  rfl
theorem one_jfst : jfst a [c] = (List.range a.length).map fun k => ((k : Nat) : Int) := by
  unfold jfst
  rw [show a.length + [c].length - 1 = a.length by simp]
  apply List.map_congr_left
  intro k hk
  rw [one_fi ha c (List.mem_range.mp hk)]
end
theorem jsum_comm {a b : List Int} (ha : 0 < a.length) (hb : 0 < b.length) : jsum b a = jsum a b := (jn_eq ha hb (Jn.comm (jsum_jn hb ha)))
theorem jsum_assoc {a b c : List Int} (ha : 0 < a.length) (hb : 0 < b.length) (hc : 0 < c.length) : jsum (jsum a b) c = jsum a (jsum b c) := by
  have l1 := jsum_len a b
  have l2 := jsum_len b c
  exact jn_assoc ha hb hc (jsum_jn ha hb) (jsum_jn (by omega) hc) (jsum_jn hb hc) (jsum_jn ha (by omega))
theorem sm_up {a a' b : List Int} (ha : 0 < a.length) (hb : 0 < b.length) (hl : a'.length = a.length) (h : ∀ i, i < a.length → a.getD i 0 ≤ a'.getD i 0) {k : Nat} (hk : k + 1 < a.length + b.length) : sm a b k ≤ sm a' b k := by
  have v := fi_vl (a := a') (b := b) (by omega) hb (k := k) (by omega)
  have v' : Vl a b k (fi a' b k) := ⟨v.1, by have := v.2.1; omega, v.2.2⟩
  have h1 := sm_le ha hb hk v'
  have h2 := h _ v'.2.1
  have h3 : sm a' b k = SS a' b k (fi a' b k) := rfl
  unfold SS at h1 h3
  omega
theorem sm_longer {a b : List Int} (c : Int) (ha : 0 < a.length) (hb : 0 < b.length) {k : Nat} (hk : k + 1 < a.length + b.length) : sm a (b ++ [c]) k ≤ sm a b k := by
  have v := fi_vl ha hb hk
  have h1 := sm_le (a := a) (b := b ++ [c]) ha (by simp) (k := k) (i := fi a b k) (by rw [List.length_append]; simp; omega) ⟨v.1, v.2.1, by rw [List.length_append]; have := v.2.2; omega⟩
  have e : SS a (b ++ [c]) k (fi a b k) = sm a b k := by
    unfold SS sm
    rw [gd_left v.2.2]
  omega
end BT
namespace BT
open PySem PySem.Spec PyProof.Rows L2 GenW
/-! ### tuples stay -/
def Tp (H H' : Hp) : Prop := ∀ a xs, H a = some (.tup xs) → H' a = some (.tup xs)
theorem Tp.refl (H : Hp) : Tp H H := fun _ _ e => e
theorem Tp.trans {a b c : Hp} (x : Tp a b) (y : Tp b c) : Tp a c := fun p xs e => y p xs (x p xs e)
theorem Kp.tp {H H' : Hp} (k : Kp [] H H') : Tp H H' := fun a xs e => k a _ (by simp) e
theorem TbG.tp {Ps : List Addr} {H H' : Hp} (g : TbG Ps H) (k : Kp Ps H H') : Tp H H' := fun a xs e => tupT g k e
theorem Dl.tp {d c : Addr} {H H' : Hp} (D : Dl d c H) (k : Kp [d, c] H H') : Tp H H' := fun a xs e => tupD D k e
/-! ### pairs of tuples as data -/
theorem eqv_pair (a b c d : List Int) : PyData.eqv (.tuple [.tuple (a.map PyData.int), .tuple (b.map PyData.int)]) (.tuple [.tuple (c.map PyData.int), .tuple (d.map PyData.int)]) = (decide (a = c) && decide (b = d)) := by
  have h : PyData.eqv (.tuple [.tuple (a.map PyData.int), .tuple (b.map PyData.int)]) (.tuple [.tuple (c.map PyData.int), .tuple (d.map PyData.int)]) = (PyData.eqv (.tuple (a.map PyData.int)) (.tuple (c.map PyData.int)) && (PyData.eqv (.tuple (b.map PyData.int)) (.tuple (d.map PyData.int)) && true)) := by
    simp only [PyData.eqv, PyData.eqvAll]
  rw [h, eqv_tups, eqv_tups, Bool.and_true]
theorem depthAll_ints : ∀ a : List Int, PyData.depthAll (a.map PyData.int) = 0
  | [] => rfl
  | x :: a => by
    rw [List.map_cons]
    simp only [PyData.depthAll, PyData.depth, depthAll_ints a]
    rfl
theorem shaped_pair (a b : List Int) : SeqAt.shaped (.tuple [.tuple (a.map PyData.int), .tuple (b.map PyData.int)]) = true := by
  have h1 := shaped_tup a
  have h2 := shaped_tup b
  simp only [SeqAt.shaped, Bool.and_eq_true, decide_eq_true_eq] at h1 h2 ⊢
  refine ⟨?_, ?_⟩
  · have g1 := h1.1
    have g2 := h2.1
    simp only [PyData.canLay0, PyData.canLayAll0] at g1 g2 ⊢
    simp [g1, g2]
  · simp only [PyData.depth, PyData.depthAll, depthAll_ints]
    decide
theorem dp_pair {K : PySem.W.Frag} {H : Hp} {t s f : Addr} {a b : List Int} (ht : H t = some (.tup [.ref s, .ref f])) (hs : H s = some (.tup (a.map V.int))) (hf : H f = some (.tup (b.map V.int))) : Dp K H (.ref t) (.tuple [.tuple (a.map PyData.int), .tuple (b.map PyData.int)]) :=
  .tup (tOf ht) (.cons (.tup (tOf hs) (dpAll_ints a)) (.cons (.tup (tOf hf) (dpAll_ints b)) .nil))
theorem rg0 (n : Nat) : rgV 0 (n : Int) = ((List.range n).map fun k => ((k : Nat) : Int)).map V.int := by
  unfold rgV
  rw [List.map_map, show ((n : Int) - 0).toNat = n by omega]
  apply List.map_congr_left
  intro j _
  show V.int (0 + (j : Int)) = V.int (j : Int)
  rw [Int.zero_add]
theorem rev_jsum {a b : List Int} (ha : 0 < a.length) (hb : 0 < b.length) : jsum a.reverse b.reverse = (jsum a b).reverse := by
  refine row_by (by rw [jsum_len, List.length_reverse, List.length_reverse, List.length_reverse, jsum_len]) fun k hk => ?_
  rw [jsum_len, List.length_reverse, List.length_reverse] at hk
  have h1 : (jsum a b).reverse.getD k 0 = (jsum a b).getD (a.length + b.length - 2 - k) 0 := by
    rw [List.getD_eq_getElem?_getD, List.getElem?_reverse (by rw [jsum_len]; exact hk), ← List.getD_eq_getElem?_getD, jsum_len, show a.length + b.length - 1 - 1 - k = a.length + b.length - 2 - k by omega]
  rw [h1, gd (jsum_at (by rw [List.length_reverse, List.length_reverse]; exact hk)), gd (jsum_at (by omega)), ← rev_sm ha hb (k := a.length + b.length - 2 - k) (by omega), show a.length + b.length - 2 - (a.length + b.length - 2 - k) = k by omega]
end BT

namespace BT
open PySem PySem.Spec PyProof.Rows L2 GenW
/-! ### sorted(t) of a tuple of whole numbers -/
def rSoT (K : PySem.W.Frag) : List V → Hp → VK → Prop := fun vs H Q => ∃ (a : Addr) (ns : List Int), vs = [V.ref a] ∧ SqT K H a (ns.map V.int) ∧ ∀ (ns' : List Int) (p : Addr), ns'.Perm ns → ns'.Pairwise (· ≤ ·) → H p = none → Q (.ref p) (upd H p (.lst (ns'.map V.int)))
theorem sorTK {X : Cx} (K : PySem.W.Frag) (h : X.K = K := by rfl) : CallR X (.builtin "sorted") (rSoT K) := by
  subst h
  intro pins s σ H vs us Q I r h
  obtain ⟨a, ns, rfl, hs, q⟩ := h
  obtain ⟨its, rv, ⟨o, ho, hc, n, hd⟩, hz⟩ := I.tuple hs
  have hi := rv.ints
  have hzi : its.length ≤ sizeLine := by rw [← rv.length]; exact hz
  rw [Vals.ref1 r]
  refine Calls.call_function_entry kind_sorted plain_sorted entry_sorted (args_sorted1 _) (?_ : wpAny _ _ (Builtin.«sorted» ⟨[.ref a], []⟩) _ _ s)
  unfold Builtin.«sorted»
  refine wpAny_bind (m := checkCount "sorted" 1 1 _) (wpAny_pure (wpAny_bind (wpAny_collect_seq (items := its.toArray) a (.inr rfl) ho hc hd (fun h' hk => ?_) (by rw [List.size_toArray]; exact hzi))))
  refine wpAny_bind (wpAny_newList (items := its) ?_ hzi)
  have hoL : (h'.push (seqObj "list" its.toArray 0)).get? h'.objs.size = some (seqObj "list" its.toArray 0) := Heap.get?_push_size _ rfl
  refine wpAny_bind (wpAny_holding (wpAny_call_entry slot_list_sort ⟨_, hoL, rfl⟩ entry_list_sort (SrtO.list_sort_ord SrtO.swo_int hoL hzi (fun h2 => SrtO.ints_sortable hi h2) fun out h1 h2 => ⟨_, rfl, wpAny_pure ⟨_, rfl, ?_⟩⟩) (args_list_sort _)))
  obtain ⟨k1, k2, k3⟩ := SrtO.ints_out hi h1 h2
  obtain ⟨ep, he⟩ := sortedHeap_at (vs := its) (out := out.toArray) hoL
  have I2 : Inv X pins σ H { s with heap := h' } := I.kept (t' := s.toks) hk
  have hkk : ∀ b o, h'.get? b = some o → (sortedHeap (h'.push (seqObj "list" its.toArray 0)) h'.objs.size its out.toArray).get? b = some o := fun b ob e1 => by
    rw [sortedHeap_old (Nat.ne_of_lt (Heap.lt_size e1)) (Heap.lt_size (Heap.get?_push_of_some _ e1))]
    exact Heap.get?_push_of_some _ e1
  have hlen : ((out.map SrtO.iv).map V.int).length ≤ sizeLine := by rw [List.length_map, k2.length_eq]; rw [List.length_map] at hz; exact hz
  exact ⟨.ref _, upd H h'.objs.size (.lst ((out.map SrtO.iv).map V.int)), I2.laid (t' := s.toks) hkk (Nat.le_refl _) ⟨hlen, out, ep, vals_of_ints k1, he⟩, rfl, q _ _ k2 k3 (I2.hok.fresh (Nat.le_refl _))⟩
end BT

namespace BT
open PySem PySem.Spec PyProof.Rows L2 GenW SX
/-! ### whole numbers written in figures -/
/-- the signs of a whole number -/
def zl (z : Int) : List Nat := if z < 0 then 45 :: TL.numL (-z).toNat else TL.numL z.toNat
theorem wd_S (z : Int) : Str.ofString (toString z) = S (zl z) := by
  refine TL.ext_tl ?_
  unfold zl
  by_cases h : z < 0
  · rw [if_pos h, toString_neg h]
    have e : (0 : Int) - z = (((-z).toNat : Nat) : Int) := by omega
    rw [e, TL.tl_ofString, String.toList_append, List.map_append]
    have e2 := TL.tl_num (-z).toNat
    rw [TL.tl_ofString] at e2
    rw [e2]
    rfl
  · rw [if_neg h]
    have e : z = ((z.toNat : Nat) : Int) := by omega
    have e2 := TL.tl_num z.toNat
    rw [← e] at e2
    exact e2
theorem num_head {n : Nat} : 0 < n → ∃ c t, TL.numL n = c :: t ∧ 49 ≤ c ∧ c ≤ 57 := by
  induction n using Nat.strongRecOn with
  | ind n ih =>
    intro h
    by_cases c : n < 10
    · exact ⟨48 + n, [], TL.numL_lt c, by omega, by omega⟩
    · obtain ⟨d, t, e, h1, h2⟩ := ih (n / 10) (by omega) (by omega)
      exact ⟨d, t ++ [48 + n % 10], by rw [TL.numL_step (by omega), e]; rfl, h1, h2⟩
/-- the figures of a whole number -/
def fg (z : Int) : List Nat := TL.numL z.natAbs
theorem zl_neg {z : Int} (h : z < 0) : zl z = 45 :: fg z := by
  unfold zl fg
  rw [if_pos h, show (-z).toNat = z.natAbs by omega]
theorem zl_pos {z : Int} (h : 0 ≤ z) : zl z = fg z := by
  unfold zl fg
  rw [if_neg (by omega), show z.toNat = z.natAbs by omega]
theorem fg_len {z : Int} (h : z.natAbs < 10 ^ 30) : (fg z).length ≤ 30 := TL.numL_len (by decide) h
theorem fg_ne (z : Int) : fg z ≠ [] := TL.numL_ne _
theorem fg_dig (z : Int) : NumText.AllDigits (fg z) := TL.numL_digits _
theorem zl_len {z : Int} (h : z.natAbs < 10 ^ 30) : (zl z).length ≤ 31 := by
  have := fg_len h
  by_cases c : z < 0
  · rw [zl_neg c, List.length_cons]; omega
  · rw [zl_pos (by omega)]; omega
theorem zl_free {z : Int} {s : Nat} (h : s < 45 ∨ s = 46 ∨ s = 47) : s ∉ zl z := fun hm => by
  have r : ∀ c ∈ fg z, 48 ≤ c ∧ c ≤ 57 := fg_dig z
  by_cases c : z < 0
  · rw [zl_neg c] at hm
    rcases List.mem_cons.mp hm with e | e
    · omega
    · have := r s e; omega
  · rw [zl_pos (by omega)] at hm
    have := r s hm; omega
theorem zl_int {z : Int} (h : z.natAbs < 10 ^ 30) : intText? (S (zl z)) = some z := by
  have hl := zl_len h
  by_cases c : z < 0
  · have e := zl_neg c
    rw [PySem.intText_neg (x := S (zl z)) (cs := fg z) (by rw [e]) (fg_dig z) (fg_ne z) (by rw [S_len]; omega)]
    unfold fg
    rw [TL.numL_val]
    congr 1
    omega
  · have e := zl_pos (z := z) (by omega)
    rw [e] at hl ⊢
    rw [PySem.intText_digits (x := S (fg z)) (fg_dig z) (fg_ne z) (by rw [S_len]; omega)]
    show some ((NumText.digitsVal (fg z) : Nat) : Int) = _
    unfold fg
    rw [TL.numL_val]
    congr 1
    omega
theorem zl_rp (z : Int) : Txt.removeprefix (S (zl z)) (S [45]) = S (fg z) := by
  rw [StrLaws.removeprefix_eq]
  have es : ∀ l : List Nat, Builtin.Str.subAt (S l) (S [45]) 0 = decide (l.take 1 = [45]) := fun l => by
    unfold Builtin.Str.subAt
    show ((S l).cps.extract 0 (0 + (S [45]).length) == (S [45]).cps) = _
    rw [show (0 + (S [45]).length) = 1 from rfl]
    have e1 : (S l).cps.extract 0 1 = (l.take 1).toArray := by
      show l.toArray.extract 0 1 = _
      simp
    rw [e1]
    by_cases c : l.take 1 = [45]
    · rw [c, decide_eq_true rfl]; rfl
    · rw [decide_eq_false c]
      refine beq_eq_false_iff_ne.mpr fun z => c ?_
      have := congrArg Array.toList z
      simpa using this
  by_cases c : z < 0
  · rw [zl_neg c, es, if_pos (by
      rw [S_len, List.length_cons]
      simp [S, Str.length])]
    show (⟨(((45 :: fg z).drop 1).take ((S (45 :: fg z)).length - 1)).toArray⟩ : Str) = S (fg z)
    rw [S_len]
    simp
  · rw [zl_pos (by omega), es]
    have hh : ¬ (fg z).take 1 = [45] := by
      intro e
      cases hf : fg z with
      | nil => exact fg_ne z hf
      | cons x t =>
        rw [hf] at e
        have hx : x = 45 := (List.cons.inj e).1
        have := fg_dig z x (by rw [hf]; exact List.mem_cons_self)
        omega
    rw [decide_eq_false hh, Bool.and_false, if_neg (by decide)]
theorem fg_zero {z : Int} (h : (fg z)[0]? = some 48) : z = 0 := by
  by_cases c : z.natAbs = 0
  · omega
  · obtain ⟨d, t, e, h1, h2⟩ := num_head (n := z.natAbs) (by omega)
    unfold fg at h
    rw [e] at h
    have : d = 48 := Option.some.inj h
    omega
theorem join_free {s : Nat} {ws : List (List Nat)} (hs : s ≠ 32) (h : ∀ p ∈ ws, s ∉ p) : s ∉ TL.joinL [32] ws := by
  induction ws with
  | nil => intro z; cases z
  | cons p r ih =>
    cases r with
    | nil => exact h p List.mem_cons_self
    | cons q r =>
      intro z
      have e : TL.joinL [32] (p :: q :: r) = p ++ ([32] ++ TL.joinL [32] (q :: r)) := rfl
      rw [e] at z
      rcases List.mem_append.mp z with z | z
      · exact h p List.mem_cons_self z
      · rcases List.mem_append.mp z with z | z
        · exact hs (List.mem_singleton.mp z)
        · exact ih (fun p hp => h p (List.mem_cons_of_mem _ hp)) z
theorem join_len {ws : List (List Nat)} {m : Nat} (h : ∀ p ∈ ws, p.length ≤ m) : (TL.joinL [32] ws).length ≤ ws.length * (m + 1) := by
  induction ws with
  | nil => exact Nat.zero_le _
  | cons p r ih =>
    cases r with
    | nil =>
      have := h p List.mem_cons_self
      show p.length ≤ 1 * (m + 1)
      omega
    | cons q r =>
      have e : TL.joinL [32] (p :: q :: r) = p ++ ([32] ++ TL.joinL [32] (q :: r)) := rfl
      have h1 := h p List.mem_cons_self
      have h2 := ih fun p hp => h p (List.mem_cons_of_mem _ hp)
      rw [e, List.length_append, List.length_append, List.length_cons (a := p), Nat.succ_mul]
      simp only [List.length_singleton]
      omega
/-- a row of whole numbers in one line -/
def ln (zs : List Int) : List Nat := TL.joinL [32] (zs.map zl)
theorem ln_split {zs : List Int} (h : zs ≠ []) : Txt.split (S (ln zs)) (S [32]) = zs.map fun z => S (zl z) := by
  unfold ln
  rw [split_S (by simp) (by decide), TL.spl_join (by simpa using h) (fun p hp => by
    obtain ⟨z, _, rfl⟩ := List.mem_map.mp hp
    exact zl_free (by omega)), List.map_map]
  rfl
theorem ln_one {zs : List Int} : Txt.split (S (ln zs)) (S [10]) = [S (ln zs)] := by
  rw [split_S (by simp) (by decide)]
  have hf : 10 ∉ ln zs := join_free (by decide) fun p hp => by
    obtain ⟨z, _, rfl⟩ := List.mem_map.mp hp
    exact zl_free (by omega)
  have e := TL.spl_join (s := 10) (S := []) (parts := [ln zs]) (by simp) (fun p hp => by rw [List.mem_singleton.mp hp]; exact hf)
  have e2 : TL.joinL [10] [ln zs] = ln zs := rfl
  rw [e2] at e
  rw [e]
  rfl
theorem ln_len {zs : List Int} (h : ∀ z ∈ zs, z.natAbs < 10 ^ 30) : (ln zs).length ≤ zs.length * 32 := by
  have := join_len (ws := zs.map zl) (m := 31) fun p hp => by
    obtain ⟨z, hz, rfl⟩ := List.mem_map.mp hp
    exact zl_len (h z hz)
  rw [List.length_map] at this
  exact this
theorem ln_join (zs : List Int) : Txt.join (S [32]) (zs.map fun z => S (zl z)) = S (ln zs) := by
  unfold ln
  rw [← join_S, List.map_map]
  rfl
theorem isiTK {X : Cx} (K : PySem.W.Frag) (h : X.K = K := by rfl) : CallR X (.builtin "isinstance") (rIsiT K) := by subst h; exact call_isiT
end BT

namespace BT
open PySem PySem.Spec PyProof.Rows L2 GenW
/-! ### things of any kind: lists and dicts at none of M -/
inductive Th (M : List Addr) (H : Hp) : Nat → V → Prop
  | non {n : Nat} : Th M H n .non
  | bl {n : Nat} (b : Bool) : Th M H n (.bl b)
  | int {n : Nat} (i : Int) (hi : i.natAbs < 10 ^ (40 + n)) : Th M H n (.int i)
  | str {n : Nat} (x : Str) : Th M H n (.str x)
  | lst {n : Nat} {a : Addr} {xs : List V} (hm : a ∉ M) (h : H a = some (.lst xs)) (hz : xs.length ≤ 1000 + n) (hx : ∀ x ∈ xs, Th M H n x) : Th M H (n + 1) (.ref a)
  | tup {n : Nat} {a : Addr} {xs : List V} (h : H a = some (.tup xs)) (hz : xs.length ≤ 1000 + n) (hx : ∀ x ∈ xs, Th M H n x) : Th M H (n + 1) (.ref a)
  | dct {n : Nat} {a : Addr} (hm : a ∉ M) (h : H a = some (.dK [])) : Th M H (n + 1) (.ref a)
/-- what Th leans on stays -/
def Sv (M : List Addr) (H H' : Hp) : Prop := (∀ a xs, a ∉ M → H a = some (.lst xs) → H' a = some (.lst xs)) ∧ (∀ a xs, H a = some (.tup xs) → H' a = some (.tup xs)) ∧ ∀ a, a ∉ M → H a = some (.dK []) → H' a = some (.dK [])
theorem Sv.refl {M : List Addr} (H : Hp) : Sv M H H := ⟨fun _ _ _ e => e, fun _ _ e => e, fun _ _ e => e⟩
theorem Sv.trans {M : List Addr} {a b c : Hp} (x : Sv M a b) (y : Sv M b c) : Sv M a c := ⟨fun p xs hm e => y.1 p xs hm (x.1 p xs hm e), fun p xs e => y.2.1 p xs (x.2.1 p xs e), fun p hm e => y.2.2 p hm (x.2.2 p hm e)⟩
theorem Sv.tp {M : List Addr} {H H' : Hp} (s : Sv M H H') : Tp H H' := s.2.1
theorem Kp.sv {M : List Addr} {H H' : Hp} (k : Kp [] H H') : Sv M H H' := ⟨fun a _ _ e => k a _ (by simp) e, fun a _ e => k a _ (by simp) e, fun a _ e => k a _ (by simp) e⟩
theorem TbG.sv {Ps M : List Addr} {H H' : Hp} (g : TbG Ps H) (k : Kp Ps H H') : Sv M H H' :=
  ⟨fun a xs _ e => lstT g k e, fun a xs e => tupT g k e, fun a _ e => k a _ (fun hm => by
    obtain ⟨ps, hp, _⟩ := g a hm
    rw [hp] at e
    cases e) e⟩
theorem Dl.sv {d c : Addr} {M : List Addr} {H H' : Hp} (D : Dl d c H) (hd : d ∈ M) (hc : c ∈ M) (k : Kp [d, c] H H') : Sv M H H' :=
  ⟨fun a xs hm e => k a _ (fun z => by
      rcases List.mem_cons.mp z with z | z
      · exact hm (by rw [z]; exact hd)
      · exact hm (by rw [List.mem_singleton.mp z]; exact hc)) e, fun a xs e => tupD D k e, fun a hm e => k a _ (fun z => by
      rcases List.mem_cons.mp z with z | z
      · exact hm (by rw [z]; exact hd)
      · exact hm (by rw [List.mem_singleton.mp z]; exact hc)) e⟩
/-- a list of M put otherwise -/
theorem Sv.put {M : List Addr} {H : Hp} {p : Addr} {o : HO} {xs : List V} (hp : p ∈ M) (e : H p = some (.lst xs)) : Sv M H (upd H p o) :=
  ⟨fun a ys hm h => by rw [upd_ne (fun z => hm (by rw [z]; exact hp))]; exact h, fun a ys h => by rw [upd_ne (fun z => by rw [z, e] at h; cases h)]; exact h, fun a hm h => by rw [upd_ne (fun z => hm (by rw [z]; exact hp))]; exact h⟩
theorem Th.sv {M : List Addr} {H H' : Hp} {n : Nat} {v : V} (t : Th M H n v) (s : Sv M H H') : Th M H' n v := by
  induction t with
  | non => exact .non
  | bl b => exact .bl b
  | int i hi => exact .int i hi
  | str x => exact .str x
  | lst hm h hz hx ih => exact .lst hm (s.1 _ _ hm h) hz ih
  | tup h hz hx ih => exact .tup (s.2.1 _ _ h) hz ih
  | dct hm h => exact .dct hm (s.2.2 _ hm h)
theorem Th.mono {M : List Addr} {H : Hp} {n m : Nat} {v : V} (t : Th M H n v) (h : n ≤ m) : Th M H m v := by
  induction t generalizing m with
  | non => exact .non
  | bl b => exact .bl b
  | int i hi => exact .int i (Nat.lt_of_lt_of_le hi (Nat.pow_le_pow_right (by decide) (by omega)))
  | str x => exact .str x
  | lst hm e hz hx ih =>
    cases m with
    | zero => omega
    | succ m => exact .lst hm e (by omega) fun x q => ih x q (by omega)
  | tup e hz hx ih =>
    cases m with
    | zero => omega
    | succ m => exact .tup e (by omega) fun x q => ih x q (by omega)
  | dct hm e =>
    cases m with
    | zero => omega
    | succ m => exact .dct hm e
def Al (M : List Addr) (H : Hp) : Prop := ∀ m ∈ M, H m ≠ none
theorem Al.ni {M : List Addr} {H : Hp} {p : Addr} (h : Al M H) (np : H p = none) : p ∉ M := fun z => h p z np
theorem Al.kp0 {M : List Addr} {H H' : Hp} (h : Al M H) (k : Kp [] H H') : Al M H' := fun m hm e => h m hm (k.back e)
theorem Al.kpD {M : List Addr} {H H' : Hp} {d c : Addr} (h : Al M H) (D : Dl d c H') (k : Kp [d, c] H H') : Al M H' := fun m hm e => by
  by_cases z : m ∈ [d, c]
  · obtain ⟨_, _, _, h1, h2, _⟩ := D
    rcases List.mem_cons.mp z with z | z
    · rw [z, h1] at e; cases e
    · rw [List.mem_singleton.mp z, h2] at e; cases e
  · exact h m hm (k.backM z e)
theorem Al.kpT {Ps M : List Addr} {H H' : Hp} (h : Al M H) (g : TbG Ps H') (k : Kp Ps H H') : Al M H' := fun m hm e => by
  by_cases z : m ∈ Ps
  · obtain ⟨ps, hp, _⟩ := g m z
    rw [hp] at e; cases e
  · exact h m hm (k.backM z e)
/-! ### == of anything with a whole number -/
theorem dict_eq_declines (l : Addr) (es : Array DictEntry) (n : Nat) (dd : Option Addr) (sl : Array (Option Value)) (b : Int) (u : Tok) :
    Meets (Builtin.«dict.__eq__» ⟨[.ref l, .int b u], []⟩) (fun _ R s => s.heap.get? l = some { cls := .type "dict", dict := dd, data := .dict es n, slots := sl } ∧ R (.ok (.ret .notImplemented)) s) :=
  .of_wp fun prog w A R s h => by
    obtain ⟨hp, g, d, tk, os⟩ := s
    obtain ⟨hl, h⟩ := h
    have f1 := F.sub_int_dict
    wp_walk using wpAny_loadPart' hl
    exact ⟨_, rfl, h⟩
end BT
namespace BT
open PySem PySem.Spec PyProof.Rows L2 GenW
theorem int_eq_declines_dict (b : Int) (u : Tok) (l : Addr) (es : Array DictEntry) (n : Nat) (dd : Option Addr) (sl : Array (Option Value)) :
    Meets (Builtin.«int.__eq__» ⟨[.int b u, .ref l], []⟩) (fun _ R s => s.heap.get? l = some { cls := .type "dict", dict := dd, data := .dict es n, slots := sl } ∧ R (.ok (.ret .notImplemented)) s) :=
  .of_wp fun prog w A R s h => by
    obtain ⟨hp, g, d, tk, os⟩ := s
    obtain ⟨hl, h⟩ := h
    wp_walk using wpAny_loadPart' hl
    exact ⟨_, rfl, h⟩
theorem dict_int_eq {prog : Program} {w : World} {A : Around} {E : Value → Shared → Prop} {s : Shared} {Q : Value → Shared → Prop} {l : Addr} {es : Array DictEntry} {n : Nat} {dd : Option Addr} {sl : Array (Option Value)} (b : Int) (u : Tok) (ho : s.heap.get? l = some { cls := .type "dict", dict := dd, data := .dict es n, slots := sl }) (hu : A.units < cLine) (h : Q (.bool false) s) :
    wpAny (model prog w) A (compareOp .Eq (.ref l) (.int b u)) Q E s :=
  SeqAt.rc_eq_decline_or (k := false) ⟨_, ho, rfl⟩ (typeIs_int s b u) (by decide) F.sub_int_dict F.slot_dict_eq F.slot_int_eq_refl
    (fun _ hq => call_meets F.slot_dict_eq ⟨_, ho, rfl⟩ F.entry_dict_eq (F.args_dict_eq_2 _ _) (dict_eq_declines l es n dd sl b u) ⟨ho, hq⟩)
    (fun _ hq => call_meets F.slot_int_eq_refl (typeIs_int s b u) F.entry_int_eq (F.args_int_eq_2 _ _) (int_eq_declines_dict b u l es n dd sl) ⟨ho, hq⟩)
    (fun _ hq => wpAny_of_eq (rfl : isSame (.ref l) (.int b u) = pure false) hq) (.inr hu) h
def rEqTI (M : List Addr) : R2 := fun x y H Q => ∃ (n : Int) (k : Nat), y = .int n ∧ Th M H k x ∧ ∀ b, (b = true → x = .int n ∨ ∃ c, x = .bl c) → (x = .int n → b = true) → Q (.bl b) H
theorem eqTI {X : Cx} (M : List Addr) (hu : X.A.units + 64 < cLine) : OpR X (compareOp .Eq) (rEqTI M) := by
  intro pins s σ H x y v u Q I rx ry h
  obtain ⟨n, k, rfl, t, q⟩ := h
  have hu' : X.A.units < cLine := by omega
  cases t with
  | non => exact op_eq pins s σ H _ _ v u Q I rx ry ⟨rfl, q _ (fun z => absurd (of_decide_eq_true z) (by simp)) (fun z => by cases z)⟩
  | bl b => exact op_eqD hu pins s σ H _ _ v u Q I rx ry ⟨_, _, .bl b, .int n, rfl, rfl, q _ (fun _ => .inr ⟨b, rfl⟩) (fun z => by cases z)⟩
  | int i hi => exact op_eq pins s σ H _ _ v u Q I rx ry ⟨rfl, q _ (fun z => .inl (of_decide_eq_true z)) (fun z => decide_eq_true z)⟩
  | str z => exact op_eq pins s σ H _ _ v u Q I rx ry ⟨rfl, q _ (fun z => absurd (of_decide_eq_true z) (by simp)) (fun z => by cases z)⟩
  | lst hm e hz hx =>
    cases rx
    obtain ⟨tk, rfl⟩ := ry
    obtain ⟨_, its, m, _, ho⟩ := I.hok _ _ e
    exact SeqAt.RcAt.list_int n tk ⟨_, ho, rfl, _, rfl⟩ hu' _ _ _ _ ⟨.bl false, H, I, rfl, q false (fun z => by cases z) (fun z => by cases z)⟩
  | tup e hz hx =>
    cases rx
    obtain ⟨tk, rfl⟩ := ry
    obtain ⟨_, its, _, ho⟩ := I.hok _ _ e
    exact SeqAt.RcAt.tuple_int n tk ho hu' _ _ _ _ ⟨.bl false, H, I, rfl, q false (fun z => by cases z) (fun z => by cases z)⟩
  | dct hm e =>
    cases rx
    obtain ⟨tk, rfl⟩ := ry
    obtain ⟨_, _, vs, _, ⟨o, es, ep, ho, hd, he, _⟩⟩ := I.hok _ _ e
    obtain ⟨cls, dd, data, sl⟩ := o
    obtain ⟨hc, _⟩ := id hd
    simp only at hc he
    subst hc he
    exact dict_int_eq n tk ho hu' ⟨.bl false, H, I, rfl, q false (fun z => by cases z) (fun z => by cases z)⟩
end BT
namespace BT
open PySem PySem.Spec PyProof.Rows L2 GenW
/-! ### isinstance of things -/
theorem Th.isi {K : PySem.W.Frag} {M : List Addr} {H : Hp} {k : Nat} {v : V} (t : Th M H k v) : ∃ T : String, TyX K H v (.type T) ∧ T ∈ ["NoneType", "bool", "int", "str", "list", "tuple", "dict"] ∧ (T = "tuple" ↔ ∃ a xs, v = .ref a ∧ H a = some (.tup xs)) ∧ (T = "bool" ↔ ∃ c, v = .bl c) ∧ (T = "int" ↔ ∃ i, v = .int i) := by
  cases t with
  | non => exact ⟨_, .base .non, by simp, ⟨fun z => by simp at z, fun ⟨a, xs, e, _⟩ => by cases e⟩, ⟨fun z => by simp at z, fun ⟨a, e⟩ => by cases e⟩, ⟨fun z => by simp at z, fun ⟨a, e⟩ => by cases e⟩⟩
  | bl b => exact ⟨_, .base (.bl b), by simp, ⟨fun z => by simp at z, fun ⟨a, xs, e, _⟩ => by cases e⟩, ⟨fun _ => ⟨b, rfl⟩, fun _ => rfl⟩, ⟨fun z => by simp at z, fun ⟨a, e⟩ => by cases e⟩⟩
  | int i hi => exact ⟨_, .base (.int i), by simp, ⟨fun z => by simp at z, fun ⟨a, xs, e, _⟩ => by cases e⟩, ⟨fun z => by simp at z, fun ⟨a, e⟩ => by cases e⟩, ⟨fun _ => ⟨i, rfl⟩, fun _ => rfl⟩⟩
  | str x => exact ⟨_, .base (.str x), by simp, ⟨fun z => by simp at z, fun ⟨a, xs, e, _⟩ => by cases e⟩, ⟨fun z => by simp at z, fun ⟨a, e⟩ => by cases e⟩, ⟨fun z => by simp at z, fun ⟨a, e⟩ => by cases e⟩⟩
  | lst hm e hz hx => exact ⟨_, .base (.lst e), by simp, ⟨fun z => by simp at z, fun ⟨a, xs, e1, e2⟩ => by cases e1; rw [e] at e2; cases e2⟩, ⟨fun z => by simp at z, fun ⟨a, e⟩ => by cases e⟩, ⟨fun z => by simp at z, fun ⟨a, e⟩ => by cases e⟩⟩
  | tup e hz hx => exact ⟨_, .base (.tup e), by simp, ⟨fun _ => ⟨_, _, rfl, e⟩, fun _ => rfl⟩, ⟨fun z => by simp at z, fun ⟨a, e⟩ => by cases e⟩, ⟨fun z => by simp at z, fun ⟨a, e⟩ => by cases e⟩⟩
  | dct hm e => exact ⟨_, .base (.dK e), by simp, ⟨fun z => by simp at z, fun ⟨a, xs, e1, e2⟩ => by cases e1; rw [e] at e2; cases e2⟩, ⟨fun z => by simp at z, fun ⟨a, e⟩ => by cases e⟩, ⟨fun z => by simp at z, fun ⟨a, e⟩ => by cases e⟩⟩
theorem kitS (K : PySem.W.Frag) {T : String} (h : T ∈ ["NoneType", "bool", "int", "str", "list", "tuple", "dict"]) : PySem.W.kitOne K (.type T) (.type "tuple") = some (decide (T = "tuple")) ∧ PySem.W.kitOne K (.type T) (.type "bool") = some (decide (T = "bool")) ∧ PySem.W.kitOne K (.type T) (.type "list") = some (decide (T = "list")) ∧ PySem.W.kitOne K (.type T) (.type "dict") = some (decide (T = "dict")) ∧ PySem.W.kitOne K (.type T) (.type "int") = some (decide (T = "int") || decide (T = "bool")) := by
  simp only [List.mem_cons, List.not_mem_nil, or_false] at h
  rcases h with rfl | rfl | rfl | rfl | rfl | rfl | rfl <;> exact ⟨kit_ty (by decide +kernel), kit_ty (by decide +kernel), kit_ty (by decide +kernel), kit_ty (by decide +kernel), kit_ty (by decide +kernel)⟩
end BT
namespace BT
open PySem PySem.Spec PyProof.Rows L2 GenW
/-! ### numbers and truths reckoned with -/
def NB (x : V) : Prop := (∃ i, x = .int i) ∨ ∃ c, x = .bl c
def nv : V → Int
  | .int i => i
  | .bl true => 1
  | _ => 0
def rAddB : R2 := fun x y H Q => ∃ n, y = .int n ∧ NB x ∧ Q (.int (nv x + n)) H
def rSubB : R2 := fun x y H Q => ∃ n, y = .int n ∧ NB x ∧ Q (.int (nv x - n)) H
def rSubC : R2 := fun x y H Q => ∃ n, x = .int n ∧ NB y ∧ Q (.int (n - nv y)) H
theorem addB {X : Cx} : OpR X (binaryOp .Add) rAddB := by
  intro pins s σ H x y v u Q I rx ry h
  obtain ⟨n, rfl, hb, q⟩ := h
  rcases hb with ⟨i, rfl⟩ | ⟨c, rfl⟩
  · exact op_add pins s σ H _ _ v u Q I rx ry ⟨i, n, rfl, rfl, q⟩
  · cases rx
    obtain ⟨tk, rfl⟩ := ry
    refine PySem.IntBool.add_bool_int ⟨.int _, H, I.tok _, ⟨_, rfl⟩, ?_⟩
    cases c <;> exact q
theorem subB {X : Cx} : OpR X (binaryOp .Sub) rSubB := by
  intro pins s σ H x y v u Q I rx ry h
  obtain ⟨n, rfl, hb, q⟩ := h
  rcases hb with ⟨i, rfl⟩ | ⟨c, rfl⟩
  · exact op_sub pins s σ H _ _ v u Q I rx ry ⟨i, n, rfl, rfl, q⟩
  · cases rx
    obtain ⟨tk, rfl⟩ := ry
    refine PySem.IntBool.sub_bool_int ⟨.int _, H, I.tok _, ⟨_, rfl⟩, ?_⟩
    cases c <;> exact q
theorem subC {X : Cx} : OpR X (binaryOp .Sub) rSubC := by
  intro pins s σ H x y v u Q I rx ry h
  obtain ⟨n, rfl, hb, q⟩ := h
  rcases hb with ⟨i, rfl⟩ | ⟨c, rfl⟩
  · exact op_sub pins s σ H _ _ v u Q I rx ry ⟨n, i, rfl, rfl, q⟩
  · cases ry
    obtain ⟨tk, rfl⟩ := rx
    refine PySem.IntBool.sub_int_bool ⟨.int _, H, I.tok _, ⟨_, rfl⟩, ?_⟩
    cases c <;> exact q
def rStrB : List V → Hp → VK → Prop := fun xs H Q => ∃ x, xs = [x] ∧ ((∃ i, x = .int i ∧ i.natAbs.log2 < 1920) ∨ ∃ c, x = .bl c) ∧ ∀ z, Q (.str z) H
theorem strB {X : Cx} : CallR X (.type "str") rStrB := by
  intro pins s σ H xs us Q I r h
  obtain ⟨x, rfl, hb, q⟩ := h
  rcases hb with ⟨i, rfl, hl⟩ | ⟨c, rfl⟩
  · exact call_str_int pins s σ H _ us Q I r ⟨i, rfl, hl, q _⟩
  · obtain ⟨u, rfl, ru⟩ := vals1 r
    cases ru
    exact PySem.P.str_of_bool ⟨.str _, H, I.tok _, ⟨_, rfl⟩, q _⟩
/-! ### a tuple == () -/
def rEqT0 : R2 := fun x y H Q => ∃ a b xs, x = .ref a ∧ y = .ref b ∧ H a = some (.tup xs) ∧ H b = some (.tup []) ∧ Q (.bl xs.isEmpty) H
theorem eqT0 {X : Cx} (hu : X.A.units + 64 < cLine) : OpR X (compareOp .Eq) rEqT0 := by
  intro pins s σ H x y v u Q I rx ry h
  obtain ⟨a, b, xs, rfl, rfl, ha, hb, q⟩ := h
  cases rx
  cases ry
  obtain ⟨_, its, rv, h1⟩ := I.hok _ _ ha
  obtain ⟨_, its2, rv2, h2⟩ := I.hok _ _ hb
  cases rv2
  refine SeqAt.eq_tupleAt (e := fun _ => true) h1 h2 (by omega) (fun j g1 g2 => absurd g2 (by simp)) ⟨.bl _, H, I, rfl, ?_⟩
  cases rv with
  | nil => exact q
  | cons r t => exact q
end BT

namespace K30
open PySem PySem.Spec PyProof.Rows L2 GenW BT
def topS (i : Nat) : Stmt := PySem.Challenge.pw_bendtables_k30_joined_by_any_hand.main.body.getD i (.Pass ⟨0, 0, 0, 0⟩)
abbrev s_joined : Stmt := topS 1
abbrev p_joined : List Str := ["one", "other"]
abbrev n_joined : List Str := ["one", "other", "pairs", "at"]
theorem sc_joined : FnScope n_joined p_joined (defScope s_joined) := ⟨rfl, rfl, rfl, by decide +kernel, rfl, by decide +kernel, by decide +kernel⟩
abbrev s_first_least : Stmt := topS 2
abbrev p_first_least : List Str := ["one", "other", "at"]
abbrev n_first_least : List Str := ["one", "other", "at", "start", "end", "place"]
theorem sc_first_least : FnScope n_first_least p_first_least (defScope s_first_least) := ⟨rfl, rfl, rfl, by decide +kernel, rfl, by decide +kernel, by decide +kernel⟩
abbrev s_is_number : Stmt := topS 4
abbrev p_is_number : List Str := ["thing"]
abbrev n_is_number : List Str := ["thing"]
theorem sc_is_number : FnScope n_is_number p_is_number (defScope s_is_number) := ⟨rfl, rfl, rfl, by decide +kernel, rfl, by decide +kernel, by decide +kernel⟩
abbrev s_is_entries : Stmt := topS 5
abbrev p_is_entries : List Str := ["thing"]
abbrev n_is_entries : List Str := ["thing"]
theorem sc_is_entries : FnScope n_is_entries p_is_entries (defScope s_is_entries) := ⟨rfl, rfl, rfl, by decide +kernel, rfl, by decide +kernel, by decide +kernel⟩
abbrev s_is_same : Stmt := topS 6
abbrev p_is_same : List Str := ["thing", "told"]
abbrev n_is_same : List Str := ["thing", "told"]
theorem sc_is_same : FnScope n_is_same p_is_same (defScope s_is_same) := ⟨rfl, rfl, rfl, by decide +kernel, rfl, by decide +kernel, by decide +kernel⟩
abbrev s_joined_holds : Stmt := topS 8
abbrev p_joined_holds : List Str := ["one", "other", "thing"]
abbrev n_joined_holds : List Str := ["one", "other", "thing"]
theorem sc_joined_holds : FnScope n_joined_holds p_joined_holds (defScope s_joined_holds) := ⟨rfl, rfl, rfl, by decide +kernel, rfl, by decide +kernel, by decide +kernel⟩
abbrev s_is_table : Stmt := topS 13
abbrev p_is_table : List Str := ["thing"]
abbrev n_is_table : List Str := ["thing"]
theorem sc_is_table : FnScope n_is_table p_is_table (defScope s_is_table) := ⟨rfl, rfl, rfl, by decide +kernel, rfl, by decide +kernel, by decide +kernel⟩
abbrev s_is_line : Stmt := topS 14
abbrev p_is_line : List Str := ["thing"]
abbrev n_is_line : List Str := ["thing"]
theorem sc_is_line : FnScope n_is_line p_is_line (defScope s_is_line) := ⟨rfl, rfl, rfl, by decide +kernel, rfl, by decide +kernel, by decide +kernel⟩
abbrev s_read_table : Stmt := topS 17
abbrev p_read_table : List Str := ["text"]
abbrev n_read_table : List Str := ["text", "table"]
theorem sc_read_table : FnScope n_read_table p_read_table (defScope s_read_table) := ⟨rfl, rfl, rfl, by decide +kernel, rfl, by decide +kernel, by decide +kernel⟩
abbrev s_read_line : Stmt := topS 18
abbrev p_read_line : List Str := ["line"]
abbrev n_read_line : List Str := ["line"]
theorem sc_read_line : FnScope n_read_line p_read_line (defScope s_read_line) := ⟨rfl, rfl, rfl, by decide +kernel, rfl, by decide +kernel, by decide +kernel⟩
abbrev s_read_entry : Stmt := topS 19
abbrev p_read_entry : List Str := ["word"]
abbrev n_read_entry : List Str := ["word"]
theorem sc_read_entry : FnScope n_read_entry p_read_entry (defScope s_read_entry) := ⟨rfl, rfl, rfl, by decide +kernel, rfl, by decide +kernel, by decide +kernel⟩
abbrev s_is_written_number : Stmt := topS 20
abbrev p_is_written_number : List Str := ["word"]
abbrev n_is_written_number : List Str := ["word", "figures"]
theorem sc_is_written_number : FnScope n_is_written_number p_is_written_number (defScope s_is_written_number) := ⟨rfl, rfl, rfl, by decide +kernel, rfl, by decide +kernel, by decide +kernel⟩
abbrev s_are_figures : Stmt := topS 21
abbrev p_are_figures : List Str := ["text"]
abbrev n_are_figures : List Str := ["text"]
theorem sc_are_figures : FnScope n_are_figures p_are_figures (defScope s_are_figures) := ⟨rfl, rfl, rfl, by decide +kernel, rfl, by decide +kernel, by decide +kernel⟩
abbrev s_law_deck : Stmt := topS 23
abbrev p_law_deck : List Str := ["_law_script"]
abbrev n_law_deck : List Str := ["_law_script", "_law_cells"]
theorem sc_law_deck : FnScope n_law_deck p_law_deck (defScope s_law_deck) := ⟨rfl, rfl, rfl, by decide +kernel, rfl, by decide +kernel, by decide +kernel⟩
abbrev s_law_draw : Stmt := topS 24
abbrev p_law_draw : List Str := ["_law_deck_here", "_law_many"]
abbrev n_law_draw : List Str := ["_law_deck_here", "_law_many", "_law_cells", "_law_cell", "_law_number_here"]
theorem sc_law_draw : FnScope n_law_draw p_law_draw (defScope s_law_draw) := ⟨rfl, rfl, rfl, by decide +kernel, rfl, by decide +kernel, by decide +kernel⟩
abbrev s_law_number : Stmt := topS 25
abbrev p_law_number : List Str := ["_law_deck_here"]
abbrev n_law_number : List Str := ["_law_deck_here", "_law_kind", "_law_great"]
theorem sc_law_number : FnScope n_law_number p_law_number (defScope s_law_number) := ⟨rfl, rfl, rfl, by decide +kernel, rfl, by decide +kernel, by decide +kernel⟩
abbrev s_law_size : Stmt := topS 26
abbrev p_law_size : List Str := ["_law_deck_here"]
abbrev n_law_size : List Str := ["_law_deck_here"]
theorem sc_law_size : FnScope n_law_size p_law_size (defScope s_law_size) := ⟨rfl, rfl, rfl, by decide +kernel, rfl, by decide +kernel, by decide +kernel⟩
abbrev s_law_bent_row : Stmt := topS 27
abbrev p_law_bent_row : List Str := ["_law_deck_here", "_law_many"]
abbrev n_law_bent_row : List Str := ["_law_deck_here", "_law_many", "_law_wide", "_law_few", "_law_row_here", "_law_step", "_law_k"]
theorem sc_law_bent_row : FnScope n_law_bent_row p_law_bent_row (defScope s_law_bent_row) := ⟨rfl, rfl, rfl, by decide +kernel, rfl, by decide +kernel, by decide +kernel⟩
abbrev s_law_row : Stmt := topS 28
abbrev p_law_row : List Str := ["_law_deck_here", "_law_kind", "_law_many"]
abbrev n_law_row : List Str := ["_law_deck_here", "_law_kind", "_law_many", "_law_row_here", "_law_at", "_law_k", "_law_number_here"]
theorem sc_law_row : FnScope n_law_row p_law_row (defScope s_law_row) := ⟨rfl, rfl, rfl, by decide +kernel, rfl, by decide +kernel, by decide +kernel⟩
abbrev s_law_joined : Stmt := topS 29
abbrev p_law_joined : List Str := ["_law_one", "_law_other"]
abbrev n_law_joined : List Str := ["_law_one", "_law_other", "_law_sums", "_law_firsts", "_law_k", "_law_some", "_law_i"]
theorem sc_law_joined : FnScope n_law_joined p_law_joined (defScope s_law_joined) := ⟨rfl, rfl, rfl, by decide +kernel, rfl, by decide +kernel, by decide +kernel⟩
abbrev s_law_same : Stmt := topS 30
abbrev p_law_same : List Str := ["_law_found", "_law_due"]
abbrev n_law_same : List Str := ["_law_found", "_law_due", "_law_here", "_law_there"]
theorem sc_law_same : FnScope n_law_same p_law_same (defScope s_law_same) := ⟨rfl, rfl, rfl, by decide +kernel, rfl, by decide +kernel, by decide +kernel⟩
abbrev s_law_other_places : Stmt := topS 31
abbrev p_law_other_places : List Str := ["_law_deck_here", "_law_one", "_law_other", "_law_due"]
abbrev n_law_other_places : List Str := ["_law_deck_here", "_law_one", "_law_other", "_law_due", "_law_kind", "_law_firsts", "_law_k", "_law_some", "_law_least", "_law_sums", "_law_i"]
theorem sc_law_other_places : FnScope n_law_other_places p_law_other_places (defScope s_law_other_places) := ⟨rfl, rfl, rfl, by decide +kernel, rfl, by decide +kernel, by decide +kernel⟩
abbrev s_law_odd : Stmt := topS 32
abbrev p_law_odd : List Str := ["_law_deck_here", "_law_number_here"]
abbrev n_law_odd : List Str := ["_law_deck_here", "_law_number_here", "_law_some"]
theorem sc_law_odd : FnScope n_law_odd p_law_odd (defScope s_law_odd) := ⟨rfl, rfl, rfl, by decide +kernel, rfl, by decide +kernel, by decide +kernel⟩
abbrev s_law_part_bent : Stmt := topS 33
abbrev p_law_part_bent : List Str := ["_law_deck_here", "_law_part"]
abbrev n_law_part_bent : List Str := ["_law_deck_here", "_law_part", "_law_kind", "_law_at"]
theorem sc_law_part_bent : FnScope n_law_part_bent p_law_part_bent (defScope s_law_part_bent) := ⟨rfl, rfl, rfl, by decide +kernel, rfl, by decide +kernel, by decide +kernel⟩
abbrev s_law_bent : Stmt := topS 34
abbrev p_law_bent : List Str := ["_law_deck_here", "_law_thing"]
abbrev n_law_bent : List Str := ["_law_deck_here", "_law_thing", "_law_kind", "_law_at"]
theorem sc_law_bent : FnScope n_law_bent p_law_bent (defScope s_law_bent) := ⟨rfl, rfl, rfl, by decide +kernel, rfl, by decide +kernel, by decide +kernel⟩
abbrev s_law_told : Stmt := topS 35
abbrev p_law_told : List Str := ["_law_one", "_law_other", "_law_thing", "_law_due"]
abbrev n_law_told : List Str := ["_law_one", "_law_other", "_law_thing", "_law_due", "_law_found"]
theorem sc_law_told : FnScope n_law_told p_law_told (defScope s_law_told) := ⟨rfl, rfl, rfl, by decide +kernel, rfl, by decide +kernel, by decide +kernel⟩
abbrev s_law_read : Stmt := topS 36
abbrev p_law_read : List Str := ["_law_row_here"]
abbrev n_law_read : List Str := ["_law_row_here", "_law_k", "_law_number_here"]
theorem sc_law_read : FnScope n_law_read p_law_read (defScope s_law_read) := ⟨rfl, rfl, rfl, by decide +kernel, rfl, by decide +kernel, by decide +kernel⟩
abbrev s_law : Stmt := topS 37
abbrev p_law : List Str := ["_law_script"]
abbrev n_law : List Str := ["_law_script", "_law_deck_here", "_law_turn", "_law_far", "_law_kinds", "_law_one", "_law_other", "_law_due", "_law_things", "_law_k", "_law_thing", "_law_again"]
theorem sc_law : FnScope n_law p_law (defScope s_law) := ⟨rfl, rfl, rfl, by decide +kernel, rfl, by decide +kernel, by decide +kernel⟩
structure Txt (K : PySem.W.Frag) (mg : Str → Option Value) where
  joined : D1 K mg "joined" s_joined p_joined
  first_least : D1 K mg "first_least" s_first_least p_first_least
  is_number : D1 K mg "is_number" s_is_number p_is_number
  is_entries : D1 K mg "is_entries" s_is_entries p_is_entries
  is_same : D1 K mg "is_same" s_is_same p_is_same
  joined_holds : D1 K mg "joined_holds" s_joined_holds p_joined_holds
  is_table : D1 K mg "is_table" s_is_table p_is_table
  is_line : D1 K mg "is_line" s_is_line p_is_line
  read_table : D1 K mg "read_table" s_read_table p_read_table
  read_line : D1 K mg "read_line" s_read_line p_read_line
  read_entry : D1 K mg "read_entry" s_read_entry p_read_entry
  is_written_number : D1 K mg "is_written_number" s_is_written_number p_is_written_number
  are_figures : D1 K mg "are_figures" s_are_figures p_are_figures
  law_deck : D1 K mg "_law_deck" s_law_deck p_law_deck
  law_draw : D1 K mg "_law_draw" s_law_draw p_law_draw
  law_number : D1 K mg "_law_number" s_law_number p_law_number
  law_size : D1 K mg "_law_size" s_law_size p_law_size
  law_bent_row : D1 K mg "_law_bent_row" s_law_bent_row p_law_bent_row
  law_row : D1 K mg "_law_row" s_law_row p_law_row
  law_joined : D1 K mg "_law_joined" s_law_joined p_law_joined
  law_same : D1 K mg "_law_same" s_law_same p_law_same
  law_other_places : D1 K mg "_law_other_places" s_law_other_places p_law_other_places
  law_odd : D1 K mg "_law_odd" s_law_odd p_law_odd
  law_part_bent : D1 K mg "_law_part_bent" s_law_part_bent p_law_part_bent
  law_bent : D1 K mg "_law_bent" s_law_bent p_law_bent
  law_told : D1 K mg "_law_told" s_law_told p_law_told
  law_read : D1 K mg "_law_read" s_law_read p_law_read
  law : D1 K mg "law" s_law p_law
  c_joined : Addr
  P_joined : Addr
  h_joined : joined.fd.code = .ref c_joined
  c_is_entries : Addr
  P_is_entries : Addr
  h_is_entries : is_entries.fd.code = .ref c_is_entries
  c_is_same : Addr
  P_is_same : Addr
  h_is_same : is_same.fd.code = .ref c_is_same
  c_is_table : Addr
  P_is_table : Addr
  h_is_table : is_table.fd.code = .ref c_is_table
  c_read_table : Addr
  P_read_table : Addr
  h_read_table : read_table.fd.code = .ref c_read_table
  c_read_line : Addr
  P_read_line : Addr
  h_read_line : read_line.fd.code = .ref c_read_line
  c_are_figures : Addr
  P_are_figures : Addr
  h_are_figures : are_figures.fd.code = .ref c_are_figures
  b_tuple : mg "tuple" = none
  b_enumerate : mg "enumerate" = none
  b_len : mg "len" = none
  b_range : mg "range" = none
  b_list : mg "list" = none
  b_int : mg "int" = none
  b_zip : mg "zip" = none
  b_max : mg "max" = none
  b_min : mg "min" = none
  b_sorted : mg "sorted" = none
  b_all : mg "all" = none
  b_sum : mg "sum" = none
  b_isinstance : mg "isinstance" = none
  b_bool : mg "bool" = none
  b_str : mg "str" = none
  b_dict : mg "dict" = none
  m_MOST_FIGURES : ∃ t, mg "MOST_FIGURES" = some (.int 30 t)
end K30

namespace K30
open PySem PySem.Spec PyProof.Rows L2 GenW BT SX
section
variable {P : Program} {w : World} {K : PySem.W.Frag} {mg : Str → Option Value} {base : Heap}
def spNumb : Sp := fun vs H Q _ => ∃ z : Int, vs = [.int z] ∧ Q (.bl true) H
theorem ok_is_number (T : Txt K mg) {k : Nat} : FnOk P w K mg base CX0 (k + 1) T.is_number.f T.is_number.fd p_is_number spNumb := by
  refine T.is_number.F.ok sc_is_number (fun vs H Q E h => ?_) (fun cdv A outer s H vs Q E hr h => ?_)
  · obtain ⟨z, rfl, _⟩ := h
    rfl
  · obtain ⟨z, rfl, q⟩ := h
    refine ⟨_, (pss_one (ps_ret (pe_and (pe_callB (isiK K) (by rfl) T.b_isinstance (by decide +kernel) (pa_cons (pv 0) (pa_cons (pe_bltn (v := .ty "int") (by rfl) T.b_int (by decide +kernel) rfl) pa_nil))) (pe_one (pe_not (pe_callB (isiK K) (by rfl) T.b_isinstance (by decide +kernel) (pa_cons (pv 0) (pa_cons (pe_bltn (v := .ty "bool") (by rfl) T.b_bool (by decide +kernel) rfl) pa_nil)))))))), ?_⟩
    refine ⟨.int z, rfl, .int z, .ty "int", _, _, true, rfl, .ty "int", .base (.int _), kit_ty (by decide +kernel), true, rfl, iteT ?_⟩
    exact ⟨.int z, rfl, .int z, .ty "bool", _, _, false, rfl, .ty "bool", .base (.int _), kit_ty (by decide +kernel), false, rfl, q⟩
def spRowT (Ps : List Addr) : Sp := fun vs H Q _ => ∃ (a : Addr) (zs : List Int), vs = [.ref a] ∧ H a = some (.tup (zs.map V.int)) ∧ 0 < zs.length ∧ zs.length ≤ 100 ∧ TbG Ps H ∧ ∀ H', Kp Ps H H' → TbG Ps H' → Q (.bl true) H'
theorem ok_is_entries (T : Txt K mg) (Ps : List Addr) (hP : T.P_is_entries ∈ Ps) (TB : TabB base mg T.c_is_entries T.P_is_entries) {k : Nat} : FnOk P w K mg base CX0 (k + 6) T.is_entries.f T.is_entries.fd p_is_entries (spRowT Ps) := by
  have G_is_number : FnOk P w K mg base CX0 1 T.is_number.f T.is_number.fd p_is_number spNumb := ok_is_number T
  refine BT.Fun.okC T.is_entries.F T.h_is_entries sc_is_entries (fun vs H Q E h => ?_) (fun A outer s H vs Q E hr h => ?_)
  · obtain ⟨a, zs, rfl, _⟩ := h
    rfl
  · obtain ⟨a, zs, rfl, hA, z0, z1, hG, q⟩ := h
    replace hr := hr.mono (show 5 ≤ k + 5 by omega)
    have nd := sc_is_entries.nd
    refine ⟨_, (pss_one (ps_ret (pe_and (pe_callB (isiK K) (by rfl) T.b_isinstance (by decide +kernel) (pa_cons (pv 0) (pa_cons (pe_bltn (v := .ty "tuple") (by rfl) T.b_tuple (by decide +kernel) rfl) pa_nil))) (pe_one (pe_allG (k := 1) (js := [none]) (N := ["part"]) (hr.mono (by decide)) TB rfl (gxOk_by (XN := n_is_entries) (xs := defScope s_is_entries) (by decide +kernel)) (piTK K (pv 0)) (fun _ => rfl) (fun _ _ _ _ _ _ _ _ _ _ => (pg_name (i := 0) (show (["part"] : List Str).Nodup by decide +kernel) rfl (Or.inl rfl))) (fun _ _ _ _ _ _ _ _ _ hrg => (pe_or (pe_cmpR op_isN (pv 0) pe_non (nomark _)) (pe_one (pe_call G_is_number (hrg.mono (by decide)) (by rfl) T.is_number.g T.is_number.F.kp T.is_number.b .nil pass0 (pa_cons (pv 0) pa_nil))))) (by rfl) T.b_all))))), ?_⟩
    refine ⟨.ref a, rfl, .ref a, .ty "tuple", _, _, true, rfl, .ty "tuple", .base (.tup hA), kit_ty (by decide +kernel), true, rfl, iteT ?_⟩
    refine ⟨.ref a, rfl, a, rfl, ⟨_, tOf hA⟩, hG _ hP, fun H3 tb => ?_⟩
    obtain ⟨G3, k3⟩ := hG.tabbed hP tb
    have hA3 := tupT hG k3 hA
    refine all_it (walk_tup (xs := zs.map V.int)) (by rw [List.length_map]; exact small (m := 100) z1) (fun i H' => Kp [] H3 H') (Kp.refl _) (fun i H' _ hp => tOf (hp a _ (by simp) hA3)) (fun i x Ha Hb hi hp hy => ?_) fun H5 hp => ?_
    · obtain ⟨rfl, hv⟩ := hy
      obtain ⟨z, rfl, _⟩ := ivs_at hv
      refine ⟨Le.set rfl, .int z, rfl, rfl, false, rfl, iteF ?_⟩
      rw [List.length_map] at hi
      refine ⟨.int z, rfl, z, rfl, small (m := 100) (by omega), true, rfl, iteT ⟨?_, hp⟩⟩
      rw [List.length_map]
      omega
    · exact q H5 (k3.trans (hp.mono (by simp))) (G3.kp0 hp)
theorem ok_is_line (T : Txt K mg) (Ps : List Addr) (hP : T.P_is_entries ∈ Ps) (TB : TabB base mg T.c_is_entries T.P_is_entries) {k : Nat} : FnOk P w K mg base CX0 (k + 7) T.is_line.f T.is_line.fd p_is_line (spRowT Ps) := by
  have G_is_entries : FnOk P w K mg base CX0 6 T.is_entries.f T.is_entries.fd p_is_entries (spRowT Ps) := ok_is_entries T Ps hP TB
  refine T.is_line.F.ok sc_is_line (fun vs H Q E h => ?_) (fun cdv A outer s H vs Q E hr h => ?_)
  · obtain ⟨a, zs, rfl, _⟩ := h
    rfl
  · obtain ⟨a, zs, rfl, hA, z0, z1, hG, q⟩ := h
    replace hr := hr.mono (show 6 ≤ k + 6 by omega)
    refine ⟨_, (pss_one (ps_ret (pe_and (pe_call G_is_entries (hr.mono (by decide)) (by rfl) T.is_entries.g T.is_entries.F.kp T.is_entries.b .nil pass0 (pa_cons (pv 0) pa_nil)) (pe_one (pe_cmpR op_gt (pe_callB (lenK K) (by rfl) T.b_len PySem.boot_len (pa_cons (pv 0) pa_nil)) pe_int (nomark _)))))), ?_⟩
    refine ⟨.ref a, rfl, a, zs, rfl, hA, z0, z1, hG, fun H1 k1 g1 => ⟨true, rfl, iteT ?_⟩⟩
    refine ⟨.ref a, rfl, a, _, rfl, .inr (tOf (tupT hG k1 hA)), _, 0, rfl, rfl, ?_⟩
    dsimp only
    rw [decide_eq_true (show (0 : Int) < (((zs.map V.int).length : Nat) : Int) by rw [List.length_map]; omega)]
    exact q H1 k1 g1
def spTab (Ps : List Addr) : Sp := fun vs H Q _ => ∃ (t a : Addr) (zs : List Int), vs = [.ref t] ∧ H t = some (.tup [.ref a]) ∧ H a = some (.tup (zs.map V.int)) ∧ 0 < zs.length ∧ zs.length ≤ 100 ∧ TbG Ps H ∧ ∀ H', Kp Ps H H' → TbG Ps H' → Q (.bl true) H'
theorem ok_is_table (T : Txt K mg) (Ps : List Addr) (hP : T.P_is_entries ∈ Ps) (TBe : TabB base mg T.c_is_entries T.P_is_entries) (hP2 : T.P_is_table ∈ Ps) (TB : TabB base mg T.c_is_table T.P_is_table) {k : Nat} : FnOk P w K mg base CX0 (k + 12) T.is_table.f T.is_table.fd p_is_table (spTab Ps) := by
  have G_is_line : FnOk P w K mg base CX0 7 T.is_line.f T.is_line.fd p_is_line (spRowT Ps) := ok_is_line T Ps hP TBe
  refine BT.Fun.okC T.is_table.F T.h_is_table sc_is_table (fun vs H Q E h => ?_) (fun A outer s H vs Q E hr h => ?_)
  · obtain ⟨t, a, zs, rfl, _⟩ := h
    rfl
  · obtain ⟨t, a, zs, rfl, hT, hA, z0, z1, hG, q⟩ := h
    replace hr := hr.mono (show 11 ≤ k + 11 by omega)
    have nd := sc_is_table.nd
    refine ⟨_, (pss_cons (ps_if (PW.pt (pw_or (pt_not (pt_val (pe_callB (isiK K) (by rfl) T.b_isinstance (by decide +kernel) (pa_cons (pv 0) (pa_cons (pe_bltn (v := .ty "tuple") (by rfl) T.b_tuple (by decide +kernel) rfl) pa_nil))))) (pw_or1 (pt_cmpR op_eq (pe_callB (lenK K) (by rfl) T.b_len PySem.boot_len (pa_cons (pv 0) pa_nil)) pe_int (nomark _))))) (pss_one (ps_ret pe_bl)) pss_nil)
        (pss_cons (ps_if (pt_not (pt_val (pe_allG (k := 7) (js := [none]) (N := ["row"]) (hr.mono (by decide)) TB rfl (gxOk_by (XN := n_is_table) (xs := defScope s_is_table) (by decide +kernel)) (piTK K (pv 0)) (fun _ => rfl) (fun _ _ _ _ _ _ _ _ _ _ => (pg_name (i := 0) (show (["row"] : List Str).Nodup by decide +kernel) rfl (Or.inl rfl))) (fun _ _ _ _ _ _ _ _ _ hrg => (pe_call G_is_line (hrg.mono (by decide)) (by rfl) T.is_line.g T.is_line.F.kp T.is_line.b .nil pass0 (pa_cons (pv 0) pa_nil))) (by rfl) T.b_all))) (pss_one (ps_ret pe_bl)) pss_nil)
        (pss_one (ps_ret (pe_allG (k := 7) (js := [none, some 0]) (N := ["row", "thing"]) (hr.mono (by decide)) TB rfl (gxOk_by (XN := n_is_table) (xs := defScope s_is_table) (by decide +kernel)) (piTK K (pv 0)) (fun _ => rfl) (fun _ _ _ _ _ _ _ _ _ _ => (pg_name (i := 0) (show (["row", "thing"] : List Str).Nodup by decide +kernel) rfl (Or.inl rfl))) (fun _ _ _ _ _ _ _ _ _ hrg => (pe_cmpR op_eq (pe_callB (lenK K) (by rfl) T.b_len PySem.boot_len (pa_cons (pv 0) pa_nil)) (pe_callB (lenK K) (by rfl) T.b_len PySem.boot_len (pa_cons (pe_ix (ixTK K) (pv 1) pe_int (fun _ _ => rfl)) pa_nil)) (nomark _))) (by rfl) T.b_all))))), ?_⟩
    refine ⟨.ref t, rfl, .ref t, .ty "tuple", _, _, true, rfl, .ty "tuple", .base (.tup hT), kit_ty (by decide +kernel), true, rfl, iteF ?_⟩
    refine ⟨.ref t, rfl, t, _, rfl, .inr (tOf hT), rfl, _, rfl, iteF ?_⟩
    refine ⟨.ref t, rfl, t, rfl, ⟨_, tOf hT⟩, hG _ hP2, fun H3 tb => ?_⟩
    obtain ⟨G3, k3⟩ := hG.tabbed hP2 tb
    have hT3 := tupT hG k3 hT
    have hA3 := tupT hG k3 hA
    refine all_it (walk_tup (xs := [.ref a])) (show (1 : Nat) < sizeLine by decide) (fun i H' => Kp Ps H3 H' ∧ TbG Ps H') ⟨Kp.refl _, G3⟩ (fun i H' _ hp => tOf (tupT G3 hp.1 hT3)) (fun i x Ha Hb hi hp hy => ?_) fun H5 hp => ?_
    · obtain ⟨rfl, hv⟩ := hy
      have hi0 : i = 0 := by have : i < 1 := hi; omega
      subst hi0
      cases hv
      obtain ⟨kA, gA⟩ := hp
      exact ⟨Le.set rfl, .ref a, rfl, a, zs, rfl, tupT G3 kA hA3, z0, z1, gA, fun H4 k4 g4 => ⟨by decide, true, rfl, iteT ⟨Nat.le_refl 1, kA.trans k4, g4⟩⟩⟩
    obtain ⟨k5, g5⟩ := hp
    refine ⟨true, rfl, iteF ?_⟩
    have hT5 := tupT G3 k5 hT3
    have hA5 := tupT G3 k5 hA3
    refine ⟨.ref t, rfl, t, rfl, ⟨_, tOf hT5⟩, g5 _ hP2, fun H6 tb6 => ?_⟩
    obtain ⟨G6, k6⟩ := g5.tabbed hP2 tb6
    have hT6 := tupT g5 k6 hT5
    have hA6 := tupT g5 k6 hA5
    refine all_it (walk_tup (xs := [.ref a])) (show (1 : Nat) < sizeLine by decide) (fun i H' => H' = H6) rfl (fun i H' _ hp => by rw [hp]; exact tOf hT6) (fun i x Ha Hb hi hp hy => ?_) fun H7 hp => ?_
    · obtain ⟨rfl, hv⟩ := hy
      have hi0 : i = 0 := by have : i < 1 := hi; omega
      subst hi0
      cases hv
      subst hp
      refine ⟨Le.set rfl, .ref a, rfl, a, _, rfl, .inr (tOf hA6), .ref t, rfl, t, _, _, .ref a, rfl, rfl, tOf hT6, atI_nat (j := 0) rfl, a, _, rfl, .inr (tOf hA6), rfl, by decide, ?_⟩
      rw [decide_eq_true rfl]
      exact ⟨true, rfl, iteT ⟨Nat.le_refl 1, rfl⟩⟩
    · subst hp
      exact q H7 ((k3.trans k5).trans k6) G6
def spFig (Ps : List Addr) : Sp := fun vs H Q _ => ∃ l : List Nat, vs = [.str (S l)] ∧ (∀ c ∈ l, 48 ≤ c ∧ c ≤ 57) ∧ 0 < l.length ∧ l.length ≤ 30 ∧ TbG Ps H ∧ ∀ H', Kp Ps H H' → TbG Ps H' → Q (.bl true) H'
theorem ok_are_figures (T : Txt K mg) (Ps : List Addr) (hP : T.P_are_figures ∈ Ps) (TB : TabB base mg T.c_are_figures T.P_are_figures) {k : Nat} : FnOk P w K mg base CX0 (k + 6) T.are_figures.f T.are_figures.fd p_are_figures (spFig Ps) := by
  refine BT.Fun.okC T.are_figures.F T.h_are_figures sc_are_figures (fun vs H Q E h => ?_) (fun A outer s H vs Q E hr h => ?_)
  · obtain ⟨l, rfl, _⟩ := h
    rfl
  · obtain ⟨l, rfl, hd, l0, l1, hG, q⟩ := h
    replace hr := hr.mono (show 5 ≤ k + 5 by omega)
    have nd := sc_are_figures.nd
    refine ⟨_, (pss_one (ps_ret (pe_and (pe_chain op_le op_le pe_int (pe_callB call_len_str (by rfl) T.b_len PySem.boot_len (pa_cons (pv 0) pa_nil)) (pe_glob (v := .int 30) (by rfl) T.m_MOST_FIGURES.choose_spec ⟨_, rfl⟩)) (pe_one (pe_allG (k := 1) (js := [none]) (N := ["sign"]) (hr.mono (by decide)) TB rfl (gxOk_by (XN := n_are_figures) (xs := defScope s_are_figures) (by decide +kernel)) (pi_str (pv 0)) (fun _ => rfl) (fun _ _ _ _ _ _ _ _ _ _ => (pg_name (i := 0) (show (["sign"] : List Str).Nodup by decide +kernel) rfl (Or.inl rfl))) (fun _ _ _ _ _ _ _ _ _ hrg => (pe_cmpR op_in_str (pv 0) pe_str (by rfl))) (by rfl) T.b_all))))), ?_⟩
    have hlen : (S l).length = l.length := S_len l
    refine ⟨.str (S l), rfl, S l, rfl, by rw [hlen]; exact Nat.le_of_lt (small (m := 30) l1), _, _, rfl, rfl, _, rfl, ?_⟩
    rw [hlen]
    refine ite2 (fun _ => ?_) fun e => absurd (decide_eq_true (show (1 : Int) ≤ (l.length : Nat) by omega)) e
    refine ⟨_, _, rfl, rfl, ?_⟩
    refine ⟨decide (((l.length : Nat) : Int) ≤ 30), rfl, ?_⟩
    rw [decide_eq_true (show ((l.length : Nat) : Int) ≤ 30 by omega)]
    refine iteT ?_
    refine ⟨.str (S l), rfl, S l, rfl, hG _ hP, fun H3 tb => ?_⟩
    obtain ⟨G3, k3⟩ := hG.tabbed hP tb
    have hsz : (S l).cps.size = l.length := by simp [S]
    refine all_it (walk_str (z := S l)) (by rw [hsz]; exact small (m := 30) l1) (fun i H' => H' = H3) rfl (fun _ _ _ _ => trivial) (fun i x Ha Hb hi hp hy => ?_) fun H5 hp => ?_
    · obtain ⟨rfl, c, hc, rfl⟩ := hy
      subst hp
      have hm : c ∈ l := by
        have hc' : l[i]? = some c := by simpa [S] using hc
        exact List.mem_of_getElem? hc'
      refine ⟨Le.set rfl, .str ⟨#[c]⟩, rfl, _, _, rfl, rfl, by rw [hsz] at hi; exact small (m := 30) (by omega), ?_⟩
      have e10 : Str.ofString "0123456789" = S [48, 49, 50, 51, 52, 53, 54, 55, 56, 57] := by decide +kernel
      rw [e10, in_one, decide_eq_true (show c ∈ [48, 49, 50, 51, 52, 53, 54, 55, 56, 57] by
        have := hd c hm
        simp
        omega)]
      exact ⟨true, rfl, iteT ⟨by omega, rfl⟩⟩
    · subst hp
      exact q H5 k3 G3
def spWn (Ps : List Addr) : Sp := fun vs H Q _ => ∃ z : Int, vs = [.str (S (zl z))] ∧ z.natAbs < 10 ^ 30 ∧ TbG Ps H ∧ ∀ H', Kp Ps H H' → TbG Ps H' → Q (.bl true) H'
theorem ok_is_written_number (T : Txt K mg) (Ps : List Addr) (hP : T.P_are_figures ∈ Ps) (TB : TabB base mg T.c_are_figures T.P_are_figures) {k : Nat} : FnOk P w K mg base CX0 (k + 7) T.is_written_number.f T.is_written_number.fd p_is_written_number (spWn Ps) := by
  have G_are_figures : FnOk P w K mg base CX0 6 T.are_figures.f T.are_figures.fd p_are_figures (spFig Ps) := ok_are_figures T Ps hP TB
  refine T.is_written_number.F.ok sc_is_written_number (fun vs H Q E h => ?_) (fun cdv A outer s H vs Q E hr h => ?_)
  · obtain ⟨z, rfl, _⟩ := h
    rfl
  · obtain ⟨z, rfl, hz, hG, q⟩ := h
    replace hr := hr.mono (show 6 ≤ k + 6 by omega)
    have nd := sc_is_written_number.nd
    refine ⟨_, (pss_cons (ps_set (i := 1) nd rfl (Or.inl rfl) (pe_m1 PySem.F.slot_str_removeprefix PySem.F.type_str_removeprefix mt_removeprefix (pv 0) pe_str))
        (pss_one (ps_ret (pe_and (pe_call G_are_figures (hr.mono (by decide)) (by rfl) T.are_figures.g T.are_figures.F.kp T.are_figures.b .nil pass0 (pa_cons (pv 1) pa_nil)) (pe_one (pe_or (pe_cmpR op_ne (pe_ix ix_str (pv 1) pe_int (fun _ _ => rfl)) pe_str (nomark _)) (pe_one (pe_cmpR op_eq (pv 0) pe_str (nomark _))))))))), ?_⟩
    have hl := zl_len hz
    refine ⟨.str (S (zl z)), rfl, ⟨_, rfl⟩, S (zl z), _, rfl, rfl, by rw [S_len]; exact Nat.le_of_lt (small (m := 31) hl), ?_⟩
    have e45 : Str.ofString "-" = S [45] := by decide +kernel
    rw [e45, zl_rp]
    have hfl := fg_len hz
    have hf0 : 0 < (fg z).length := List.length_pos_iff.mpr (fg_ne z)
    refine ⟨.str (S (fg z)), rfl, fg z, rfl, fg_dig z, hf0, hfl, hG, fun H1 k1 g1 => ⟨true, rfl, iteT ?_⟩⟩
    obtain ⟨c, t, hf⟩ : ∃ c t, fg z = c :: t := by
      cases h : fg z with
      | nil => exact absurd h (fg_ne z)
      | cons c t => exact ⟨c, t, rfl⟩
    refine ⟨.str (S (fg z)), rfl, S (fg z), 0, c, rfl, rfl, by rw [S_len]; exact Nat.le_of_lt (small (m := 31) (by omega)), atI_nat (j := 0) (by rw [hf]; rfl), rfl, _, rfl, ite2 (fun e => ?_) fun e => ?_⟩
    · exact q H1 k1 g1
    have ec : (⟨#[c]⟩ : Str) = Str.ofString "0" := by
      refine V.str.inj (Classical.byContradiction fun hn => e ?_)
      simpa using hn
    have e48 : c = 48 := by
      have e0 : Str.ofString "0" = S [48] := by decide +kernel
      rw [e0] at ec
      have := S_inj (a := [c]) (b := [48]) ec
      exact (List.cons.inj this).1
    have hz0 : z = 0 := fg_zero (by rw [hf, e48]; rfl)
    refine ⟨.str (S (zl z)), rfl, rfl, ?_⟩
    have ez : S (zl z) = Str.ofString "0" := by rw [hz0]; decide +kernel
    rw [decide_eq_true (show V.str (S (zl z)) = V.str (Str.ofString "0") by rw [ez])]
    exact q H1 k1 g1
def spEnt (Ps : List Addr) : Sp := fun vs H Q _ => ∃ z : Int, vs = [.str (S (zl z))] ∧ z.natAbs < 10 ^ 30 ∧ TbG Ps H ∧ ∀ H', Kp Ps H H' → TbG Ps H' → Q (.int z) H'
theorem ok_read_entry (T : Txt K mg) (Ps : List Addr) (hP : T.P_are_figures ∈ Ps) (TB : TabB base mg T.c_are_figures T.P_are_figures) {k : Nat} : FnOk P w K mg base CX0 (k + 8) T.read_entry.f T.read_entry.fd p_read_entry (spEnt Ps) := by
  have G_is_written_number : FnOk P w K mg base CX0 7 T.is_written_number.f T.is_written_number.fd p_is_written_number (spWn Ps) := ok_is_written_number T Ps hP TB
  refine T.read_entry.F.ok sc_read_entry (fun vs H Q E h => ?_) (fun cdv A outer s H vs Q E hr h => ?_)
  · obtain ⟨z, rfl, _⟩ := h
    rfl
  · obtain ⟨z, rfl, hz, hG, q⟩ := h
    replace hr := hr.mono (show 7 ≤ k + 7 by omega)
    have nd := sc_read_entry.nd
    refine ⟨_, (pss_cons (ps_if (pt_cmpR op_eq (pv 0) pe_str (nomark _)) (pss_one (ps_ret pe_non)) pss_nil)
        (pss_cons (ps_if (pt_not (pt_val (pe_call G_is_written_number (hr.mono (by decide)) (by rfl) T.is_written_number.g T.is_written_number.F.kp T.is_written_number.b .nil pass0 (pa_cons (pv 0) pa_nil)))) pss_never pss_nil)
        (pss_one (ps_ret (pe_callTy call_int_str (by rfl) T.b_int (by decide +kernel) (pa_cons (pv 0) pa_nil)))))), ?_⟩
    have hne : ¬ V.str (S (zl z)) = V.str (Str.ofString ".") := fun e => by
      have e1 : S (zl z) = S [46] := V.str.inj e
      have e2 := S_inj e1
      exact zl_free (z := z) (s := 46) (by omega) (by rw [e2]; simp)
    refine ⟨.str (S (zl z)), rfl, rfl, _, rfl, ?_⟩
    rw [decide_eq_false hne]
    refine iteF ?_
    have hl := zl_len hz
    refine ⟨.str (S (zl z)), rfl, z, rfl, hz, hG, fun H1 k1 g1 => ⟨true, rfl, iteF ?_⟩⟩
    exact ⟨.str (S (zl z)), rfl, S (zl z), z, rfl, zl_int hz, by rw [S_len]; omega, q H1 k1 g1⟩
def spLn (Ps : List Addr) : Sp := fun vs H Q _ => ∃ zs : List Int, vs = [.str (S (ln zs))] ∧ (∀ z ∈ zs, z.natAbs < 10 ^ 30) ∧ 0 < zs.length ∧ zs.length ≤ 100 ∧ TbG Ps H ∧ ∀ p H', H' p = some (.tup (zs.map V.int)) → Kp Ps H H' → TbG Ps H' → Q (.ref p) H'
theorem ok_read_line (T : Txt K mg) (Ps : List Addr) (hPf : T.P_are_figures ∈ Ps) (TBf : TabB base mg T.c_are_figures T.P_are_figures) (hP : T.P_read_line ∈ Ps) (TB : TabB base mg T.c_read_line T.P_read_line) {k : Nat} : FnOk P w K mg base CX0 (k + 15) T.read_line.f T.read_line.fd p_read_line (spLn Ps) := by
  have G_read_entry : FnOk P w K mg base CX0 8 T.read_entry.f T.read_entry.fd p_read_entry (spEnt Ps) := ok_read_entry T Ps hPf TBf
  refine BT.Fun.okC T.read_line.F T.h_read_line sc_read_line (fun vs H Q E h => ?_) (fun A outer s H vs Q E hr h => ?_)
  · obtain ⟨zs, rfl, _⟩ := h
    rfl
  · obtain ⟨zs, rfl, hz, z0, z1, hG, q⟩ := h
    replace hr := hr.mono (show 14 ≤ k + 14 by omega)
    have nd := sc_read_line.nd
    refine ⟨_, (pss_one (ps_ret (pe_tupG (k := 8) (js := [none]) (N := ["word"]) (hr.mono (by decide)) TB rfl (gxOk_by (XN := n_read_line) (xs := defScope s_read_line) (by decide +kernel)) (piLK K (pe_split (pv 0) pe_str)) (fun _ => rfl) (fun _ _ _ _ _ _ _ _ _ _ => (pg_name (i := 0) (show (["word"] : List Str).Nodup by decide +kernel) rfl (Or.inl rfl))) (fun _ _ _ _ _ _ _ _ _ hrg => (pe_call G_read_entry (hrg.mono (by decide)) (by rfl) T.read_entry.g T.read_entry.F.kp T.read_entry.b .nil pass0 (pa_cons (pv 0) pa_nil))) (by rfl) T.b_tuple))), ?_⟩
    have hl := ln_len hz
    refine ⟨.str (S (ln zs)), rfl, ⟨_, rfl⟩, S (ln zs), _, rfl, rfl, by decide +kernel, by rw [S_len]; exact Nat.le_of_lt (small (m := 4000) (by omega)), fun D nD => ?_⟩
    have e32 : Str.ofString " " = S [32] := by decide +kernel
    rw [e32, ln_split (fun e => by rw [e] at z0; cases z0), List.map_map]
    have kD : Kp [] H (upd H D (.lst (zs.map (V.str ∘ fun z => S (zl z))))) := Kp.new nD
    have eD : upd H D (.lst (zs.map (V.str ∘ fun z => S (zl z)))) D = some (.lst (zs.map (V.str ∘ fun z => S (zl z)))) := upd_same
    generalize upd H D (.lst (zs.map (V.str ∘ fun z => S (zl z)))) = H1 at kD eD ⊢
    have G1 := hG.kp0 kD
    refine ⟨D, rfl, ⟨_, lOf eD⟩, G1 _ hP, fun H3 tb => ?_⟩
    obtain ⟨G3, k3⟩ := G1.tabbed hP tb
    have eD3 := lstT G1 k3 eD
    refine tup_it (walk_list (xs := zs.map (V.str ∘ fun z => S (zl z)))) (fun us H' => Kp Ps H3 H' ∧ TbG Ps H' ∧ us = (zs.take us.length).map V.int) ⟨Kp.refl _, G3, rfl⟩ (fun us H' hlu hp => lOf (lstT G3 hp.1 eD3)) (fun us x H' H4 hlt hp hy => ?_) fun us H4 p hlu hp np => ?_
    · obtain ⟨kk, gg, hu⟩ := hp
      obtain ⟨rfl, hx⟩ := hy
      rw [List.length_map] at hlt
      rw [List.getElem?_map, dg hlt] at hx
      have ex : x = .str (S (zl (zs.getD us.length 0))) := (Option.some.inj hx).symm
      subst ex
      refine ⟨Le.set rfl, .str (S (zl (zs.getD us.length 0))), rfl, zs.getD us.length 0, rfl, hz _ (List.mem_of_getElem? (dg hlt)), gg, fun H5 k5 g5 => ?_⟩
      refine ⟨small (m := 100) (by omega), by rw [List.length_append, List.length_map]; exact hlt, kk.trans k5, g5, ?_⟩
      rw [List.length_append]
      show us ++ [V.int (zs.getD us.length 0)] = (zs.take (us.length + 1)).map V.int
      rw [List.take_succ, dg hlt, List.map_append, ← hu]
      rfl
    · obtain ⟨kk, gg, hu⟩ := hp
      rw [List.length_map] at hlu
      rw [hlu, List.take_length] at hu
      have kn : Kp [] H4 (upd H4 p (.tup us)) := Kp.new np
      exact q p _ (by rw [upd_same, hu]) ((((kD.mono (by simp)).trans k3).trans kk).trans (kn.mono (by simp))) (gg.kp0 kn)
def spRt (Ps : List Addr) : Sp := fun vs H Q _ => ∃ zs : List Int, vs = [.str (S (ln zs))] ∧ (∀ z ∈ zs, z.natAbs < 10 ^ 30) ∧ 0 < zs.length ∧ zs.length ≤ 100 ∧ TbG Ps H ∧ ∀ t p H', H' t = some (.tup [.ref p]) → H' p = some (.tup (zs.map V.int)) → Kp Ps H H' → TbG Ps H' → Q (.ref t) H'
theorem ok_read_table (T : Txt K mg) (Ps : List Addr) (h1 : T.P_is_entries ∈ Ps) (B1 : TabB base mg T.c_is_entries T.P_is_entries) (h2 : T.P_is_table ∈ Ps) (B2 : TabB base mg T.c_is_table T.P_is_table) (h3 : T.P_are_figures ∈ Ps) (B3 : TabB base mg T.c_are_figures T.P_are_figures) (h4 : T.P_read_line ∈ Ps) (B4 : TabB base mg T.c_read_line T.P_read_line)
    (hP : T.P_read_table ∈ Ps) (TB : TabB base mg T.c_read_table T.P_read_table) {k : Nat} : FnOk P w K mg base CX0 (k + 22) T.read_table.f T.read_table.fd p_read_table (spRt Ps) := by
  have G_read_line : FnOk P w K mg base CX0 15 T.read_line.f T.read_line.fd p_read_line (spLn Ps) := ok_read_line T Ps h3 B3 h4 B4
  have G_is_table : FnOk P w K mg base CX0 12 T.is_table.f T.is_table.fd p_is_table (spTab Ps) := ok_is_table T Ps h1 B1 h2 B2
  refine BT.Fun.okC T.read_table.F T.h_read_table sc_read_table (fun vs H Q E h => ?_) (fun A outer s H vs Q E hr h => ?_)
  · obtain ⟨zs, rfl, _⟩ := h
    rfl
  · obtain ⟨zs, rfl, hz, z0, z1, hG, q⟩ := h
    replace hr := hr.mono (show 21 ≤ k + 21 by omega)
    have nd := sc_read_table.nd
    refine ⟨_, (pss_cons (ps_if (pt_not (pt_val (pe_callB (isiK K) (by rfl) T.b_isinstance (by decide +kernel) (pa_cons (pv 0) (pa_cons (pe_bltn (v := .ty "str") (by rfl) T.b_str (by decide +kernel) rfl) pa_nil))))) pss_never pss_nil)
        (pss_cons (ps_set (i := 1) nd rfl (Or.inl rfl) (pe_tupG (k := 15) (js := [none]) (N := ["line"]) (hr.mono (by decide)) TB rfl (gxOk_by (XN := n_read_table) (xs := defScope s_read_table) (by decide +kernel)) (piLK K (pe_split (pv 0) pe_str)) (fun _ => rfl) (fun _ _ _ _ _ _ _ _ _ _ => (pg_name (i := 0) (show (["line"] : List Str).Nodup by decide +kernel) rfl (Or.inl rfl))) (fun _ _ _ _ _ _ _ _ _ hrg => (pe_call G_read_line (hrg.mono (by decide)) (by rfl) T.read_line.g T.read_line.F.kp T.read_line.b .nil pass0 (pa_cons (pv 0) pa_nil))) (by rfl) T.b_tuple))
        (pss_cons (ps_if (pt_not (pt_val (pe_call G_is_table (hr.mono (by decide)) (by rfl) T.is_table.g T.is_table.F.kp T.is_table.b .nil pass0 (pa_cons (pv 1) pa_nil)))) pss_never pss_nil)
        (pss_one (ps_ret (pv 1)))))), ?_⟩
    refine ⟨.str (S (ln zs)), rfl, .str (S (ln zs)), .ty "str", _, _, true, rfl, .ty "str", .base (.str _), kit_ty (by decide +kernel), true, rfl, iteF ?_⟩
    have hl := ln_len hz
    refine ⟨.str (S (ln zs)), rfl, ⟨_, rfl⟩, S (ln zs), _, rfl, rfl, by decide +kernel, by rw [S_len]; exact Nat.le_of_lt (small (m := 4000) (by omega)), fun D nD => ?_⟩
    have e10 : Str.ofString "\n" = S [10] := by decide +kernel
    rw [e10, ln_one]
    have kD : Kp [] H (upd H D (.lst ([S (ln zs)].map V.str))) := Kp.new nD
    have eD : upd H D (.lst ([S (ln zs)].map V.str)) D = some (.lst ([S (ln zs)].map V.str)) := upd_same
    generalize upd H D (.lst ([S (ln zs)].map V.str)) = H1 at kD eD ⊢
    have G1 := hG.kp0 kD
    refine ⟨D, rfl, ⟨_, lOf eD⟩, G1 _ hP, fun H3 tb => ?_⟩
    obtain ⟨G3, k3⟩ := G1.tabbed hP tb
    have eD3 := lstT G1 k3 eD
    refine tup_it (walk_list (xs := [S (ln zs)].map V.str)) (fun us H' => Kp Ps H3 H' ∧ TbG Ps H' ∧ (us = [] ∨ ∃ p, us = [.ref p] ∧ H' p = some (.tup (zs.map V.int)))) ⟨Kp.refl _, G3, .inl rfl⟩ (fun us H' hlu hp => lOf (lstT G3 hp.1 eD3)) (fun us x H' H4 hlt hp hy => ?_) fun us H4 t hlu hp nt => ?_
    · obtain ⟨kk, gg, hu⟩ := hp
      obtain ⟨rfl, hx⟩ := hy
      have hl0 : us.length = 0 := by have : us.length < 1 := hlt; omega
      have eu : us = [] := List.length_eq_zero_iff.mp hl0
      subst eu
      cases hx
      refine ⟨Le.set rfl, .str (S (ln zs)), rfl, zs, rfl, hz, z0, z1, gg, fun p H5 e5 k5 g5 => ?_⟩
      exact ⟨by decide, Nat.le_refl 1, kk.trans k5, g5, .inr ⟨p, rfl, e5⟩⟩
    · obtain ⟨kk, gg, hu⟩ := hp
      have hu1 : us.length = 1 := hlu
      rcases hu with rfl | ⟨p, rfl, ep⟩
      · cases hu1
      have kn : Kp [] H4 (upd H4 t (.tup [.ref p])) := Kp.new nt
      have et : upd H4 t (.tup [.ref p]) t = some (.tup [.ref p]) := upd_same
      generalize upd H4 t (.tup [.ref p]) = H5 at kn et ⊢
      have g5 := gg.kp0 kn
      have ep5 := kn p _ (by simp) ep
      refine ⟨.ref t, rfl, t, p, zs, rfl, et, ep5, z0, z1, g5, fun H6 k6 g6 => ⟨true, rfl, iteF ?_⟩⟩
      exact ⟨.ref t, rfl, q t p H6 (tupT g5 k6 et) (tupT g5 k6 ep5) (((((kD.mono (by simp)).trans k3).trans kk).trans (kn.mono (by simp))).trans k6) g6⟩
end
end K30

namespace K30
open PySem PySem.Spec PyProof.Rows L2 GenW BT
section
variable {P : Program} {w : World} {K : PySem.W.Frag} {mg : Str → Option Value} {base : Heap}
def spFL : Sp := fun vs H Q _ => ∃ (a b : Addr) (xs ys : List Int) (k : Nat), vs = [.ref a, .ref b, .int k] ∧ H a = some (.tup (xs.map V.int)) ∧ H b = some (.tup (ys.map V.int)) ∧ 0 < xs.length ∧ xs.length ≤ 1000 ∧ 0 < ys.length ∧ ys.length ≤ 1000 ∧ k + 1 < xs.length + ys.length ∧
  ∀ t H', H' t = some (.tup [.int (sm xs ys k), .int (fi xs ys k)]) → Kp [] H H' → Q (.ref t) H'
theorem ok_first_least (T : Txt K mg) {k : Nat} : FnOk P w K mg base CX0 (k + 1) T.first_least.f T.first_least.fd p_first_least spFL := by
  refine T.first_least.F.ok sc_first_least (fun vs H Q E h => ?_) (fun cdv A outer s H vs Q E hr h => ?_)
  · obtain ⟨a, b, xs, ys, k, rfl, _⟩ := h
    rfl
  · obtain ⟨a, b, xs, ys, k, rfl, hA, hB, x0, x1, y0, y1, hk, q⟩ := h
    have nd := sc_first_least.nd
    refine ⟨_, (pss_cons (ps_set (i := 3) nd rfl (Or.inl rfl) (pe_callB (call_max2 rfl) (by rfl) T.b_max (by decide +kernel) (pa_cons pe_int (pa_cons (pe_op op_add (pe_op op_sub (pv 2) (pe_callB (lenK K) (by rfl) T.b_len PySem.boot_len (pa_cons (pv 1) pa_nil))) pe_int) pa_nil))))
        (pss_cons (ps_set (i := 4) nd rfl (Or.inl rfl) (pe_callB (call_min2 rfl) (by rfl) T.b_min (by decide +kernel) (pa_cons (pv 2) (pa_cons (pe_op op_sub (pe_callB (lenK K) (by rfl) T.b_len PySem.boot_len (pa_cons (pv 0) pa_nil)) pe_int) pa_nil))))
        (pss_one (ps_ret (pe_callB (minPK K rfl hr.units) (by rfl) T.b_min (by decide +kernel) (pa_cons (pe_lc (own := [("place", 5)]) rfl nd (pi_range2 (by rfl) T.b_range (pa_cons (pv 3) (pa_cons (pe_op op_add (pv 4) pe_int) pa_nil))) (blkOk_by (own := [("place", 5)]) (N := n_first_least) (sc := defScope s_first_least) (by decide +kernel)) (fun _ _ _ _ _ => (pg_name (i := 5) nd rfl (Or.inl rfl))) (fun _ _ _ _ _ => pts_nil) (fun _ _ _ _ _ => (pe_tup (pa_cons (pe_op op_add (pe_ix (ixTK K) (pv 0) (pv 5) (fun _ _ => rfl)) (pe_ix (ixTK K) (pv 1) (pe_op op_sub (pv 2) (pv 5)) (fun _ _ => rfl))) (pa_cons (pv 5) pa_nil))))) pa_nil)))))), ?_⟩
    refine ⟨.int k, rfl, .ref b, rfl, b, _, rfl, .inr (tOf hB), _, _, rfl, rfl, _, 1, rfl, rfl, 0, _, rfl, ?_⟩
    obtain ⟨st, hst⟩ : ∃ st : Nat, st = k + 1 - ys.length := ⟨_, rfl⟩
    have est : (if (k : Int) - ((ys.map V.int).length : Nat) + 1 > 0 then (k : Int) - ((ys.map V.int).length : Nat) + 1 else 0) = (st : Int) := by
      rw [List.length_map]
      split <;> omega
    dsimp only
    rw [est]
    refine ⟨.int k, rfl, .ref a, rfl, a, _, rfl, .inr (tOf hA), _, 1, rfl, rfl, _, _, rfl, ?_⟩
    obtain ⟨en, hen⟩ : ∃ en : Nat, en = min k (xs.length - 1) := ⟨_, rfl⟩
    have een : (if ((xs.map V.int).length : Nat) - 1 < (k : Int) then (((xs.map V.int).length : Nat) : Int) - 1 else (k : Int)) = (en : Int) := by
      rw [List.length_map]
      split <;> omega
    dsimp only
    rw [een]
    refine ⟨.int st, rfl, .int en, rfl, _, 1, rfl, rfl, st, _, rfl, ⟨by omega, by omega, by omega, by omega⟩, fun D nD => ?_⟩
    rw [show ((en : Int) + 1 - (st : Int)).toNat = en + 1 - st by omega]
    refine lc_it walk_range (fun i H' => Kp [] H H' ∧ ∃ ts : List Addr, H' D = some (.lst (ts.map V.ref)) ∧ PrsAt H' ts ((List.range i).map fun j => (xs.getD (st + j) 0 + ys.getD (k - (st + j)) 0, ((st + j : Nat) : Int)))) ⟨Kp.new nD, [], upd_same, PrsAt.nil⟩ (fun _ _ _ _ => trivial) (fun i x Ha Hb hi hp hy => ?_) fun H2 hp => ?_
    · obtain ⟨kA, ts, hD, pr⟩ := hp
      obtain ⟨rfl, rfl⟩ := hy
      have hA' := kA a _ (by simp) hA
      have hB' := kA b _ (by simp) hB
      refine ⟨rfl, .ref a, rfl, .int ((st : Int) + (i : Nat)), rfl, a, _, _, .int (xs.getD (st + i) 0), rfl, rfl, tOf hA', at_i (n := st + i) (by omega) (ivAt (by omega)), .ref b, rfl, .int k, rfl, .int ((st : Int) + (i : Nat)), rfl, _, _, rfl, rfl, b, _, _, .int (ys.getD (k - (st + i)) 0), rfl, rfl, tOf hB', at_i (n := k - (st + i)) (by omega) (ivAt (by omega)),
        _, _, rfl, rfl, .int ((st : Int) + (i : Nat)), rfl, (show (2 : Nat) ≤ sizeLine by decide), fun t nt => ?_⟩
      have kt : Kp [] Hb (upd Hb t (.tup [.int (xs.getD (st + i) 0 + ys.getD (k - (st + i)) 0), .int ((st : Int) + (i : Nat))])) := Kp.new nt
      have lt : ts.length = i := by have := pr.1; rw [List.length_map, List.length_range] at this; exact this
      have hD' := kt D _ (by simp) hD
      refine ⟨_, hD', by rw [List.length_map, lt]; exact small (m := 1000) (by omega), (kA.trans kt).mut nD, ts ++ [t], by rw [upd_same, List.map_append]; rfl, ?_⟩
      rw [List.range_succ, List.map_append]
      refine ((pr.kp kt NT.nil).push ?_).upL hD'
      rw [upd_same]
      rfl
    · obtain ⟨k2, ts, hD, pr⟩ := hp
      refine ⟨D, ts, _, rfl, lOf hD, pr, by rw [List.length_map, List.length_range]; omega, fun i t z e1 e2 hm => ?_⟩
      have hil := (List.getElem?_eq_some_iff.mp e2).1
      rw [List.length_map, List.length_range] at hil
      rw [List.getElem?_map, List.getElem?_range hil] at e2
      have ez : z = (xs.getD (st + i) 0 + ys.getD (k - (st + i)) 0, ((st + i : Nat) : Int)) := (Option.some.inj e2).symm
      have hf : Fst xs ys k (st + i) := by
        have le : ∀ j, j < en + 1 - st → LxLe z (xs.getD (st + j) 0 + ys.getD (k - (st + j)) 0, ((st + j : Nat) : Int)) := fun j hj => hm _ (List.mem_map.mpr ⟨j, List.mem_range.mpr hj, rfl⟩)
        rw [ez] at le
        refine fst_of x0 y0 hk hst (c := en + 1 - st) (by omega) hil (fun j hj => ?_) fun j hj => ?_
        · rcases le j hj with h | h
          · exact Int.le_of_lt h
          · exact Int.le_of_eq h.1
        · rcases le j (by omega) with h | h
          · exact h
          · have := h.2
            dsimp only at this
            omega
      have et := pr.2 i t z e1 (by rw [List.getElem?_map, List.getElem?_range hil]; exact e2)
      rw [ez] at et
      refine q t H2 ?_ k2
      rw [et]
      unfold sm
      rw [fi_eq hf]
def spJ (Ps : List Addr) : Sp := fun vs H Q _ => ∃ (a b : Addr) (xs ys : List Int), vs = [.ref a, .ref b] ∧ H a = some (.tup (xs.map V.int)) ∧ H b = some (.tup (ys.map V.int)) ∧ 0 < xs.length ∧ xs.length ≤ 400 ∧ 0 < ys.length ∧ ys.length ≤ 400 ∧ TbG Ps H ∧
  ∀ t s f H', H' t = some (.tup [.ref s, .ref f]) → H' s = some (.tup ((jsum xs ys).map V.int)) → H' f = some (.tup ((jfst xs ys).map V.int)) → Kp Ps H H' → TbG Ps H' → Q (.ref t) H'
theorem ok_joined (T : Txt K mg) (Ps : List Addr) (hP : T.P_joined ∈ Ps) (TB : TabB base mg T.c_joined T.P_joined) {k : Nat} : FnOk P w K mg base CX0 (k + 8) T.joined.f T.joined.fd p_joined (spJ Ps) := by
  have G_first_least : FnOk P w K mg base CX0 1 T.first_least.f T.first_least.fd p_first_least spFL := ok_first_least T
  refine BT.Fun.okC T.joined.F T.h_joined sc_joined (fun vs H Q E h => ?_) (fun A outer s H vs Q E hr h => ?_)
  · obtain ⟨a, b, xs, ys, rfl, _⟩ := h
    rfl
  · obtain ⟨a, b, xs, ys, rfl, hA, hB, x0, x1, y0, y1, hG, q⟩ := h
    replace hr := hr.mono (show 7 ≤ k + 7 by omega)
    have nd := sc_joined.nd
    refine ⟨_, (pss_cons (ps_setLc (i := 2) (own := [("at", 3)]) rfl nd rfl rfl (sw_true rfl rfl rfl (by decide +kernel)) (pi_range1 (by rfl) T.b_range (pa_cons (pe_op op_sub (pe_op op_add (pe_callB (lenK K) (by rfl) T.b_len PySem.boot_len (pa_cons (pv 0) pa_nil)) (pe_callB (lenK K) (by rfl) T.b_len PySem.boot_len (pa_cons (pv 1) pa_nil))) pe_int) pa_nil)) (blkOk_by (own := [("at", 3)]) (N := n_joined) (sc := defScope s_joined) (by decide +kernel)) (fun _ _ _ _ _ => (pg_name (i := 3) nd rfl (Or.inl rfl))) (fun _ _ _ _ _ => pts_nil) (fun _ _ _ _ _ => (pe_call G_first_least (hr.mono (by decide)) (by rfl) T.first_least.g T.first_least.F.kp T.first_least.b .nil pass0 (pa_cons (pv 0) (pa_cons (pv 1) (pa_cons (pv 3) pa_nil))))))
        (pss_one (ps_ret (pe_tup (pa_cons (pe_tupG (k := 1) (js := [none, none]) (N := ["least", "first"]) (hr.mono (by decide)) TB rfl (gxOk_by (XN := n_joined) (xs := defScope s_joined) (by decide +kernel)) (piLK K (pv 2)) (fun _ => rfl) (fun _ _ _ _ _ _ _ _ _ _ => (pgTK K (n := 2) (by rfl) (pgs_cons (pg_name (i := 0) (show (["least", "first"] : List Str).Nodup by decide +kernel) rfl (Or.inl rfl)) (pgs_cons (pg_name (i := 1) (show (["least", "first"] : List Str).Nodup by decide +kernel) rfl (Or.inl rfl)) pgs_nil)))) (fun _ _ _ _ _ _ _ _ _ hrg => (pv 0)) (by rfl) T.b_tuple) (pa_cons (pe_tupG (k := 1) (js := [none, none]) (N := ["least", "first"]) (hr.mono (by decide)) TB rfl (gxOk_by (XN := n_joined) (xs := defScope s_joined) (by decide +kernel)) (piLK K (pv 2)) (fun _ => rfl) (fun _ _ _ _ _ _ _ _ _ _ => (pgTK K (n := 2) (by rfl) (pgs_cons (pg_name (i := 0) (show (["least", "first"] : List Str).Nodup by decide +kernel) rfl (Or.inl rfl)) (pgs_cons (pg_name (i := 1) (show (["least", "first"] : List Str).Nodup by decide +kernel) rfl (Or.inl rfl)) pgs_nil)))) (fun _ _ _ _ _ _ _ _ _ hrg => (pv 1)) (by rfl) T.b_tuple) pa_nil)))))), ?_⟩
    refine ⟨.ref a, rfl, a, _, rfl, .inr (tOf hA), .ref b, rfl, b, _, rfl, .inr (tOf hB), _, _, rfl, rfl, _, 1, rfl, rfl, _, rfl, ?_, ?_, fun D nD => ?_⟩
    · rw [List.length_map, List.length_map]; omega
    · rw [List.length_map, List.length_map]; omega
    have eN : ((((xs.map V.int).length : Nat) : Int) + ((ys.map V.int).length : Nat) - 1).toNat = xs.length + ys.length - 1 := by rw [List.length_map, List.length_map]; omega
    dsimp only
    rw [eN]
    refine lc_it walk_range (fun i H' => Kp [] H H' ∧ ∃ ts : List Addr, H' D = some (.lst (ts.map V.ref)) ∧ PrsAt H' ts ((List.range i).map fun j => (sm xs ys j, (fi xs ys j : Int)))) ⟨Kp.new nD, [], upd_same, PrsAt.nil⟩ (fun _ _ _ _ => trivial) (fun i x Ha Hb hi hp hy => ?_) fun H2 hp => ?_
    · obtain ⟨kA, ts, hD, pr⟩ := hp
      obtain ⟨rfl, rfl⟩ := hy
      refine ⟨rfl, .ref a, rfl, .ref b, rfl, .int (0 + (i : Nat)), rfl, a, b, xs, ys, i, by rw [Int.zero_add]; rfl, kA a _ (by simp) hA, kA b _ (by simp) hB, x0, by omega, y0, by omega, by omega, fun t Hc et kC => ?_⟩
      have lt : ts.length = i := by have := pr.1; rw [List.length_map, List.length_range] at this; exact this
      have hD' := kC D _ (by simp) hD
      refine ⟨_, hD', by rw [List.length_map, lt]; exact small (m := 1000) (by omega), (kA.trans kC).mut nD, ts ++ [t], by rw [upd_same, List.map_append]; rfl, ?_⟩
      rw [List.range_succ, List.map_append]
      exact ((pr.kp kC NT.nil).push et).upL hD'
    obtain ⟨k2, ts, hD, pr⟩ := hp
    have G2 := hG.kp0 k2
    have lts : ts.length = xs.length + ys.length - 1 := by have := pr.1; rw [List.length_map, List.length_range] at this; exact this
    -- sums
    refine ⟨.ref D, rfl, D, rfl, ⟨_, lOf hD⟩, G2 _ hP, fun H3 tb => ?_⟩
    obtain ⟨G3, k3⟩ := G2.tabbed hP tb
    have hD3 := lstT G2 k3 hD
    have pr3 := pr.kp k3 G2.nt
    refine tup_it (walk_list (xs := ts.map V.ref)) (TgP [] H3 fun j => .int (sm xs ys j)) TgP.zero (fun us H' hlu hp => lOf (hp.1 D _ (by simp) hD3)) (fun us x H' H4 hlt hp hy => ?_) fun us H4 p hlu hp np => ?_
    · obtain ⟨kk, hu⟩ := hp
      obtain ⟨rfl, hx⟩ := hy
      rw [List.length_map] at hlt
      have hb : ts[us.length]? = some ts[us.length] := List.getElem?_eq_getElem hlt
      rw [List.getElem?_map, hb] at hx
      have ex : x = .ref ts[us.length] := (Option.some.inj hx).symm
      subst ex
      have et := (pr3.kp kk NT.nil).2 us.length _ _ hb (by rw [List.getElem?_map, List.getElem?_range (by omega)]; rfl)
      refine ⟨ts[us.length], _, rfl, tOf et, rfl, _, _, rfl, _, _, rfl, rfl, ⟨rfl, fun m v e => ?_⟩, .int (sm xs ys us.length), rfl, ?_⟩
      · rcases m with _ | _ | m <;> cases e
      · exact TgP.step kk hu (by rw [List.length_map]; exact hlt) (by rw [List.length_map]; exact small (m := 1000) (by omega)) rfl
    obtain ⟨k4, hu⟩ := hp
    rw [List.length_map, lts] at hlu
    rw [hlu] at hu
    have eS : us = (jsum xs ys).map V.int := by rw [hu]; unfold jsum; rw [List.map_map]; rfl
    have k5 : Kp [] H3 (upd H4 p (.tup us)) := k4.trans (Kp.new np)
    have e5 : upd H4 p (.tup us) p = some (.tup ((jsum xs ys).map V.int)) := by rw [upd_same, eS]
    have G5 := G3.kp0 k5
    have hD5 := k5 D _ (by simp) hD3
    have pr5 := pr3.kp k5 NT.nil
    generalize upd H4 p (.tup us) = H5 at k5 e5 G5 hD5 pr5 ⊢
    -- firsts
    refine ⟨.ref D, rfl, D, rfl, ⟨_, lOf hD5⟩, G5 _ hP, fun H6 tb6 => ?_⟩
    obtain ⟨G6, k6⟩ := G5.tabbed hP tb6
    have hD6 := lstT G5 k6 hD5
    have pr6 := pr5.kp k6 G5.nt
    have e6 := tupT G5 k6 e5
    refine tup_it (walk_list (xs := ts.map V.ref)) (TgP [] H6 fun j => .int (fi xs ys j)) TgP.zero (fun us H' hlu hp => lOf (hp.1 D _ (by simp) hD6)) (fun us x H' H4 hlt hp hy => ?_) fun us2 H7 p2 hlu2 hp np2 => ?_
    · obtain ⟨kk, hu⟩ := hp
      obtain ⟨rfl, hx⟩ := hy
      rw [List.length_map] at hlt
      have hb : ts[us.length]? = some ts[us.length] := List.getElem?_eq_getElem hlt
      rw [List.getElem?_map, hb] at hx
      have ex : x = .ref ts[us.length] := (Option.some.inj hx).symm
      subst ex
      have et := (pr6.kp kk NT.nil).2 us.length _ _ hb (by rw [List.getElem?_map, List.getElem?_range (by omega)]; rfl)
      refine ⟨ts[us.length], _, rfl, tOf et, rfl, _, _, rfl, _, _, rfl, rfl, ⟨rfl, fun m v e => ?_⟩, .int (fi xs ys us.length), rfl, ?_⟩
      · rcases m with _ | _ | m <;> cases e
      · exact TgP.step kk hu (by rw [List.length_map]; exact hlt) (by rw [List.length_map]; exact small (m := 1000) (by omega)) rfl
    obtain ⟨k7, hu2⟩ := hp
    rw [List.length_map, lts] at hlu2
    rw [hlu2] at hu2
    have eF : us2 = (jfst xs ys).map V.int := by rw [hu2]; unfold jfst; rw [List.map_map]; rfl
    have k8 : Kp [] H6 (upd H7 p2 (.tup us2)) := k7.trans (Kp.new np2)
    have e8 : upd H7 p2 (.tup us2) p2 = some (.tup ((jfst xs ys).map V.int)) := by rw [upd_same, eF]
    have e68 := k8 p _ (by simp) e6
    have G8 := G6.kp0 k8
    have kk8 : Kp Ps H (upd H7 p2 (.tup us2)) := ((((k2.mono (by simp)).trans k3).trans (k5.mono (by simp))).trans k6).trans (k8.mono (by simp))
    generalize upd H7 p2 (.tup us2) = H8 at k8 e8 e68 G8 kk8 ⊢
    refine ⟨(show (2 : Nat) ≤ sizeLine by decide), fun t nt => ?_⟩
    have k9 : Kp [] H8 (upd H8 t (.tup [.ref p, .ref p2])) := Kp.new nt
    exact q t p p2 _ upd_same (k9 p _ (by simp) e68) (k9 p2 _ (by simp) e8) (kk8.trans (k9.mono (by simp))) (G8.kp0 k9)
end
end K30

namespace K30
open PySem PySem.Spec PyProof.Rows L2 GenW BT
section
variable {P : Program} {w : World} {K : PySem.W.Frag} {mg : Str → Option Value} {base : Heap}
def spDraw : Sp := fun vs H Q _ => ∃ (d c : Addr) (most : Int), vs = [.ref d, .int most] ∧ Dl d c H ∧ 0 < most ∧ most < 1073741824 ∧ ∀ r H', 0 ≤ r → r < most → Dl d c H' → Kp [d, c] H H' → Q (.int r) H'
theorem ok_draw (T : Txt K mg) {k : Nat} : FnOk P w K mg base CX0 (k + 1) T.law_draw.f T.law_draw.fd p_law_draw spDraw := by
  refine T.law_draw.F.ok sc_law_draw (fun vs H Q E h => ?_) (fun cdv A outer s H vs Q E hr h => ?_)
  · obtain ⟨d, c, most, rfl, _⟩ := h
    rfl
  · obtain ⟨d, c, most, rfl, hD, hm0, hm1, q⟩ := h
    have nd := sc_law_draw.nd
    refine ⟨_, (pss_cons (ps_asg (pe_op op_add (pe_ix (ixLK K) (pv 0) pe_int (fun _ _ => rfl)) pe_int) (pg_sub (pv 0) pe_int set_list))
        (pss_cons (ps_set (i := 2) nd rfl (Or.inl rfl) (pe_ix (ixLK K) (pv 0) pe_int (fun _ _ => rfl)))
        (pss_cons (ps_set (i := 3) nd rfl (Or.inl rfl) (pe_ix (ixLK K) (pv 0) pe_int (fun _ _ => rfl)))
        (Evl.pss_cut (ps_if (pt_cmpR (op_neD hr.units) (pv 2) (pe_lst pa_nil) (nomark _)) (pss_cons (ps_set (i := 3) nd rfl (Or.inl rfl) (pe_bm PySem.F.plainAttrs_list PySem.F.slot_list_pop PySem.F.type_list_pop mt_popAt (pv 2) (pa_cons pe_int pa_nil)))
        (pss_cons (ps_if (pt_cmpR op_ge (pv 3) (pe_op op_pow pe_int pe_int) (nomark _)) (pss_cons (ps_expr (pe_bm PySem.F.plainAttrs_list PySem.F.slot_list_insert PySem.F.type_list_insert mt_insert (pv 2) (pa_cons pe_int (pa_cons (pe_op op_fdivN (pv 3) (pv 1)) pa_nil))))
        (pss_one (ps_ret (pe_op op_modN (pv 3) (pv 1))))) pss_nil)
        (pss_one (ps_set (i := 3) nd rfl (Or.inl rfl) (pe_op op_add (pv 3) (pe_ix (ixLK K) (pv 0) pe_int (fun _ _ => rfl))))))) pss_nil)
        (pss_cons (ps_set (i := 4) nd rfl (Or.inl rfl) (pe_op op_mod (pe_op op_add (pe_op op_add (pe_op op_mul (pe_op op_mod (pv 3) pe_int) pe_int) (pe_op op_mul pe_int (pe_ix (ixLK K) (pv 0) pe_int (fun _ _ => rfl)))) pe_int) pe_int))
        (pss_cons (ps_set (i := 4) nd rfl (Or.inl rfl) (pe_op op_mod (pe_op op_add (pe_op op_add (pe_op op_mul (pv 4) (pv 4)) (pe_op op_mul pe_int (pv 4))) (pe_ix (ixLK K) (pv 0) pe_int (fun _ _ => rfl))) pe_int))
        (pss_cons (ps_asg (pv 4) (pg_sub (pv 0) pe_int set_list))
        (pss_one (ps_ret (pe_op op_modN (pe_op op_fdiv (pe_op op_mod (pe_op op_mul (pv 4) (pe_op op_add (pv 4) pe_int)) pe_int) pe_int) (pv 1))))))))))), ?_⟩
    have hne := hD.ne
    obtain ⟨cs, sd, a, h1, h2, h3⟩ := hD
    -- at
    refine ⟨.ref d, rfl, d, _, _, .int a, rfl, rfl, lOf h1, dl2, a, 1, rfl, rfl, .ref d, rfl, d, _, 2, 2, rfl, rfl, h1, ix2, ?_⟩
    have k1 : Kp [d, c] H (upd H d (.lst [.ref c, .int sd, .int (a + 1)])) := (Kp.refl H).wr List.mem_cons_self
    have c1 : upd H d (.lst [.ref c, .int sd, .int (a + 1)]) c = some (.lst (cs.map V.int)) := by
      rw [upd_ne hne.symm]
      exact h2
    show _
    generalize hH1 : upd H d (.lst [.ref c, .int sd, .int (a + 1)]) = H1 at k1 c1
    have d1 : H1 d = some (.lst [.ref c, .int sd, .int (a + 1)]) := by rw [← hH1, upd_same]
    have hH1' : upd H d (.lst ([V.ref c, .int sd, .int a].set 2 (.int (a + 1)))) = H1 := hH1
    rw [hH1']
    -- cells, cell
    refine ⟨.ref d, rfl, d, _, _, .ref c, rfl, rfl, lOf d1, dl0, .ref d, rfl, d, _, _, .int sd, rfl, rfl, lOf d1, dl1, ?_⟩
    -- the if, with a word behind it
    refine ⟨fun σ' H' => ∃ (x : Int) (cs' : List Int), σ' = [some (.ref d), some (.int most), some (.ref c), some (.int x), none] ∧ H' d = some (.lst [.ref c, .int sd, .int (a + 1)]) ∧ H' c = some (.lst (cs'.map V.int)) ∧ cs'.length ≤ 63 ∧ Kp [d, c] H H', ?_, ?_⟩
    · refine ⟨.ref c, rfl, Nat.zero_le _, fun p np => ?_⟩
      have hpd : d ≠ p := ne_of_none d1 np
      have hpc : c ≠ p := ne_of_none c1 np
      have k2 : Kp [d, c] H (upd H1 p (.lst [])) := k1.trans (Kp.new np)
      have d2 : upd H1 p (.lst []) d = some (.lst [.ref c, .int sd, .int (a + 1)]) := by rw [upd_ne hpd]; exact d1
      have c2 : upd H1 p (.lst []) c = some (.lst (cs.map V.int)) := by rw [upd_ne hpc]; exact c1
      generalize hH2 : upd H1 p (.lst []) = H2 at k2 d2 c2
      have p2 : H2 p = some (.lst []) := by rw [← hH2, upd_same]
      refine ⟨_, _, .lst (lOf c2) (dpAll_ints cs), .lst (lOf p2) .nil, shaped_ints cs, rfl, _, rfl, ?_⟩
      rw [eqv_nil]
      cases hcs : cs with
      | nil => exact iteF ⟨sd, [], rfl, d2, by rw [c2, hcs], by decide, k2⟩
      | cons y cs' =>
        refine iteT ?_
        have hl' : cs'.length + 1 = cs.length := by rw [hcs]; simp
        subst hcs
        refine ⟨.ref c, rfl, .inl ⟨rfl, _, lOf c2⟩, c, _, 0, 0, .int y, rfl, rfl, c2, by decide, by decide, pop0, rfl, ?_⟩
        show _
        have k3 : Kp [d, c] H (upd H2 c (.lst (cs'.map V.int))) := k2.wr (List.mem_cons_of_mem _ (List.mem_singleton.mpr rfl))
        have d3 : upd H2 c (.lst (cs'.map V.int)) d = some (.lst [.ref c, .int sd, .int (a + 1)]) := by rw [upd_ne hne]; exact d2
        have ee : upd H2 c (.lst (((y :: cs').map V.int).eraseIdx 0)) = upd H2 c (.lst (cs'.map V.int)) := rfl
        rw [ee]
        generalize hH3 : upd H2 c (.lst (cs'.map V.int)) = H3 at k3 d3
        have c3 : H3 c = some (.lst (cs'.map V.int)) := by rw [← hH3, upd_same]
        refine ⟨.int y, rfl, 10, 18, rfl, rfl, ⟨by decide, by decide, by decide⟩, y, _, rfl, rfl, _, rfl, ite2 (fun e => ?_) fun e => ?_⟩
        · refine ⟨.ref c, rfl, .inl ⟨rfl, _, lOf c3⟩, .int y, rfl, .int most, rfl, y, most, rfl, rfl, ⟨by omega, by omega⟩, c, _, 0, _, rfl, rfl, c3, by rw [List.length_map]; exact Nat.lt_of_le_of_lt (show cs'.length ≤ 63 by omega) (by decide), by decide, by decide, ?_⟩
          refine ⟨.int y, rfl, .int most, rfl, y, most, rfl, rfl, by omega, ?_⟩
          obtain ⟨m1, m2⟩ := fmod_lt (x := y) hm0
          refine q _ _ m1 m2 ⟨y.fdiv most :: cs', sd, a + 1, ?_, ?_, ?_⟩ (k3.wr (List.mem_cons_of_mem _ (List.mem_singleton.mpr rfl)))
          · rw [upd_ne hne]; exact d3
          · rw [upd_same]; rfl
          · show cs'.length + 1 ≤ 63; omega
        · refine ⟨.int y, rfl, .ref d, rfl, d, _, _, .int sd, rfl, rfl, lOf d3, dl1, y, sd, rfl, rfl, ?_⟩
          exact ⟨_, cs', rfl, d3, c3, by omega, k3⟩
    · intro σ' H' hM
      obtain ⟨x, cs', rfl, d4, c4, hl4, k4⟩ := hM
      refine ⟨.int x, rfl, x, _, rfl, rfl, (show (0 : Int) < 2147483629 by decide), _, _, rfl, rfl, cmulR (by decide) (by decide), .ref d, rfl, d, _, _, .int (a + 1), rfl, rfl, lOf d4, dl2, _, _, rfl, rfl, cmulL (by decide) (by decide), _, _, rfl, rfl, _, _, rfl, rfl, _, _, rfl, rfl, (show (0 : Int) < 2147483647 by decide), ?_⟩
      dsimp only
      have b1 := modm (x := x % 2147483629 * 48271 + 7919 * (a + 1) + 13) (show (0 : Int) < 2147483647 by decide)
      generalize hf1 : (x % 2147483629 * 48271 + 7919 * (a + 1) + 13) % 2147483647 = f1 at b1 ⊢
      refine ⟨.int f1, rfl, .int f1, rfl, f1, f1, rfl, rfl, cmulL (by omega) (by omega), .int f1, rfl, _, f1, rfl, rfl, cmulL (by decide) (by decide), _, _, rfl, rfl, .ref d, rfl, d, _, _, .int (a + 1), rfl, rfl, lOf d4, dl2, _, _, rfl, rfl, _, _, rfl, rfl, (show (0 : Int) < 2147483587 by decide), ?_⟩
      dsimp only
      have b2 := modm (x := (f1 * f1 + 69621 * f1 + (a + 1))) (show (0 : Int) < 2147483587 by decide)
      generalize hf2 : (f1 * f1 + 69621 * f1 + (a + 1)) % 2147483587 = f2 at b2 ⊢
      refine ⟨.int f2, rfl, .ref d, rfl, d, _, 1, 1, rfl, rfl, d4, ix1, ?_⟩
      refine ⟨.int f2, rfl, .int f2, rfl, f2, _, rfl, rfl, f2, _, rfl, rfl, cmulL (by omega) (by omega), _, _, rfl, rfl, (show (0 : Int) < 2147483563 by decide), _, _, rfl, rfl, ⟨by decide, by decide⟩, .int most, rfl, _, most, rfl, rfl, by omega, ?_⟩
      obtain ⟨m1, m2⟩ := fmod_lt (x := f2 * (f2 + 40692) % 2147483563 / 64) hm0
      refine q _ _ m1 m2 ⟨cs', f2, a + 1, upd_same, ?_, hl4⟩ (k4.wr List.mem_cons_self)
      rw [upd_ne hne.symm]
      exact c4
def spDeck (K : PySem.W.Frag) : Sp := fun vs H Q _ => ∃ (a : Addr) (ns : List Int), vs = [.ref a] ∧ SqL K H a (ns.map V.int) ∧ ns.length ≤ 63 ∧ ∀ d c H', Dl d c H' → Kp [] H H' → H d = none → H c = none → Q (.ref d) H'
theorem ok_law_deck (T : Txt K mg) {k : Nat} : FnOk P w K mg base CX0 (k + 1) T.law_deck.f T.law_deck.fd p_law_deck (spDeck K) := by
  refine T.law_deck.F.ok sc_law_deck (fun vs H Q E h => ?_) (fun cdv A outer s H vs Q E hr h => ?_)
  · obtain ⟨a, ns, rfl, _⟩ := h
    rfl
  · obtain ⟨a, ns, rfl, hS, hl, q⟩ := h
    have nd := sc_law_deck.nd
    refine ⟨_, (pss_cons (ps_set (i := 1) nd rfl (Or.inl rfl) (pe_callTy (lisK K) (by rfl) T.b_list (by decide +kernel) (pa_cons (pe_slice (slLK K) (pv 0) po_none (po_some pe_int)) pa_nil)))
        (pss_one (ps_ret (pe_lst (pa_cons (pv 1) (pa_cons (pe_op op_add pe_int (pe_op op_mod (pe_callB (cr_sum rfl) (by rfl) T.b_sum (by decide +kernel) (pa_cons (pv 1) pa_nil)) pe_int)) (pa_cons pe_int pa_nil))))))), ?_⟩
    refine ⟨.ref a, rfl, 63, rfl, a, _, rfl, hS, fun p np => ⟨p, _, rfl, .inl (lOf upd_same), fun l nl0 => ?_⟩⟩
    have hcut : cutV (ns.map V.int) none (some 63) = ns.map V.int := (cut_to _ 63).trans (List.take_of_length_le (by rw [List.length_map]; exact hl))
    have nl : upd H p (.lst (ns.map V.int)) l = none := by rw [← hcut]; exact nl0
    rw [hcut]
    have k1 : Kp [] H (upd (upd H p (.lst (ns.map V.int))) l (.lst (ns.map V.int))) := (Kp.new np).trans (Kp.new nl)
    have l1 : upd (upd H p (.lst (ns.map V.int))) l (.lst (ns.map V.int)) l = some (.lst (ns.map V.int)) := upd_same
    have hl0 : H l = none := (Kp.new (M := []) np).back nl
    generalize upd (upd H p (.lst (ns.map V.int))) l (.lst (ns.map V.int)) = H1 at k1 l1
    refine ⟨.ref l, rfl, .ref l, rfl, l, ns, rfl, lOf l1, _, _, rfl, rfl, (show (0 : Int) < 2147483587 by decide), _, _, rfl, rfl, (show (3 : Nat) ≤ sizeLine by decide), fun d nd1 => ?_⟩
    have ne : l ≠ d := ne_of_none l1 nd1
    refine q d l _ ⟨ns, _, 0, upd_same, ?_, hl⟩ (k1.trans (Kp.new nd1)) (k1.back nd1) hl0
    rw [upd_ne ne]
    exact l1
end
end K30

namespace K30
open PySem PySem.Spec PyProof.Rows L2 GenW BT
section
variable {P : Program} {w : World} {K : PySem.W.Frag} {mg : Str → Option Value} {base : Heap}
theorem mul_bd {a w A W : Int} (h1 : -A ≤ a) (h2 : a ≤ A) (w0 : 0 ≤ w) (w1 : w ≤ W) (hA : 0 ≤ A) : -(A * W) ≤ a * w ∧ a * w ≤ A * W := by
  have e1 : a * w ≤ A * w := Int.mul_le_mul_of_nonneg_right h2 w0
  have e2 : A * w ≤ A * W := Int.mul_le_mul_of_nonneg_left w1 hA
  have e3 : (-A) * w ≤ a * w := Int.mul_le_mul_of_nonneg_right h1 w0
  rw [Int.neg_mul] at e3
  omega
theorem first_bd {x0 : Int} (h : -(1000 * 100000) ≤ x0 ∧ x0 ≤ 1000 * 100000) (j : Nat) (hj : j < 0 + 1) : -100000000 * ((j : Int) + 1) ≤ ([x0] : List Int).getD j 0 ∧ ([x0] : List Int).getD j 0 ≤ 100000000 * ((j : Int) + 1) := by
  have e : j = 0 := by omega
  subst e
  show -100000000 * (((0 : Nat) : Int) + 1) ≤ x0 ∧ x0 ≤ 100000000 * (((0 : Nat) : Int) + 1)
  omega
def spNum : Sp := fun vs H Q _ => ∃ (d c : Addr), vs = [.ref d] ∧ Dl d c H ∧ ∀ n H', -1000000000 ≤ n → n ≤ 1000000000 → Dl d c H' → Kp [d, c] H H' → Q (.int n) H'
theorem ok_number (T : Txt K mg) {k : Nat} : FnOk P w K mg base CX0 (k + 2) T.law_number.f T.law_number.fd p_law_number spNum := by
  have G_law_draw : FnOk P w K mg base CX0 1 T.law_draw.f T.law_draw.fd p_law_draw spDraw := ok_draw T
  refine T.law_number.F.ok sc_law_number (fun vs H Q E h => ?_) (fun cdv A outer s H vs Q E hr h => ?_)
  · obtain ⟨d, c, rfl, _⟩ := h
    rfl
  · obtain ⟨d, c, rfl, hD, q⟩ := h
    replace hr := hr.mono (show 1 ≤ k + 1 by omega)
    have nd := sc_law_number.nd
    refine ⟨_, (pss_cons (ps_set (i := 1) nd rfl (Or.inl rfl) (pe_call G_law_draw (hr.mono (by decide)) (by rfl) T.law_draw.g T.law_draw.F.kp T.law_draw.b .nil pass0 (pa_cons (pv 0) (pa_cons pe_int pa_nil))))
        (pss_cons (ps_if (pt_cmpR op_lt (pv 1) pe_int (nomark _)) (pss_one (ps_ret (pe_op op_sub (pe_call G_law_draw (hr.mono (by decide)) (by rfl) T.law_draw.g T.law_draw.F.kp T.law_draw.b .nil pass0 (pa_cons (pv 0) (pa_cons pe_int pa_nil))) pe_int))) pss_nil)
        (pss_cons (ps_if (pt_cmpR op_lt (pv 1) pe_int (nomark _)) (pss_one (ps_ret (pe_op op_sub (pe_call G_law_draw (hr.mono (by decide)) (by rfl) T.law_draw.g T.law_draw.F.kp T.law_draw.b .nil pass0 (pa_cons (pv 0) (pa_cons pe_int pa_nil))) pe_int))) pss_nil)
        (pss_cons (ps_set (i := 2) nd rfl (Or.inl rfl) (pe_op op_pow pe_int pe_int))
        (Evl.pss_cut (ps_if (pt_cmpR op_eq (pv 1) pe_int (nomark _)) (pss_one (ps_set (i := 2) nd rfl (Or.inl rfl) (pe_op op_add (pe_op op_add (pe_op op_mul (pe_call G_law_draw (hr.mono (by decide)) (by rfl) T.law_draw.g T.law_draw.F.kp T.law_draw.b .nil pass0 (pa_cons (pv 0) (pa_cons (pe_op op_pow pe_int pe_int) pa_nil))) (pe_op op_pow pe_int pe_int)) (pe_call G_law_draw (hr.mono (by decide)) (by rfl) T.law_draw.g T.law_draw.F.kp T.law_draw.b .nil pass0 (pa_cons (pv 0) (pa_cons (pe_op op_pow pe_int pe_int) pa_nil)))) pe_int))) pss_nil)
        (pss_one (ps_ret (pe_ix (ixLK K) (pe_lst (pa_cons (pv 2) (pa_cons (pe_op op_sub pe_int (pv 2)) pa_nil))) (pe_call G_law_draw (hr.mono (by decide)) (by rfl) T.law_draw.g T.law_draw.F.kp T.law_draw.b .nil pass0 (pa_cons (pv 0) (pa_cons pe_int pa_nil))) (fun _ _ => rfl))))))))), ?_⟩
    refine ⟨.ref d, rfl, d, c, 8, rfl, hD, by decide, by decide, fun kd H1 _ _ D1 k1 => ?_⟩
    refine ⟨.int kd, rfl, kd, 4, rfl, rfl, _, rfl, ite2 (fun _ => ?_) fun _ => ?_⟩
    · exact ⟨.ref d, rfl, d, c, 7, rfl, D1, by decide, by decide, fun r H' _ _ D' k' => ⟨r, 3, rfl, rfl, q _ H' (by omega) (by omega) D' (k1.trans k')⟩⟩
    refine ⟨.int kd, rfl, kd, 6, rfl, rfl, _, rfl, ite2 (fun _ => ?_) fun _ => ?_⟩
    · exact ⟨.ref d, rfl, d, c, 201, rfl, D1, by decide, by decide, fun r H' _ _ D' k' => ⟨r, 100, rfl, rfl, q _ H' (by omega) (by omega) D' (k1.trans k')⟩⟩
    refine ⟨10, 9, rfl, rfl, ⟨by decide, by decide, by decide⟩, ?_⟩
    refine ⟨fun σ' H' => ∃ g : Int, σ' = [some (.ref d), some (.int kd), some (.int g)] ∧ 0 ≤ g ∧ g ≤ 1000000000 ∧ Dl d c H' ∧ Kp [d, c] H H', ?_, ?_⟩
    · refine ⟨.int kd, rfl, rfl, _, rfl, ite2 (fun _ => ?_) fun _ => ?_⟩
      · refine ⟨.ref d, rfl, 10, 5, rfl, rfl, ⟨by decide, by decide, by decide⟩, d, c, _, rfl, D1, by decide, by decide, fun r H2 a1 a2 D2 k2 => ?_⟩
        refine ⟨10, 4, rfl, rfl, ⟨by decide, by decide, by decide⟩, r, _, rfl, rfl, cmulR (by decide) (by decide), ?_⟩
        refine ⟨.ref d, rfl, 10, 4, rfl, rfl, ⟨by decide, by decide, by decide⟩, d, c, _, rfl, D2, by decide, by decide, fun r2 H3 b1 b2 D3 k3 => ?_⟩
        refine ⟨_, r2, rfl, rfl, _, 1, rfl, rfl, _, rfl, ?_, ?_, D3, (k1.trans k2).trans k3⟩
        · have e4 : (10 : Int) ^ (4 : Int).toNat = 10000 := by decide
          rw [e4] at b2 ⊢
          omega
        · have e4 : (10 : Int) ^ (4 : Int).toNat = 10000 := by decide
          have e5 : (10 : Int) ^ (5 : Int).toNat = 100000 := by decide
          rw [e4] at b2 ⊢
          rw [e5] at a2
          omega
      · exact ⟨_, rfl, by decide, by decide, D1, k1⟩
    · intro σ' H' hM
      obtain ⟨g, rfl, g0, g1, D2, k2⟩ := hM
      refine ⟨.int g, rfl, .int g, rfl, 0, g, rfl, rfl, (show (2 : Nat) ≤ sizeLine by decide), fun p np => ?_⟩
      have ni := D2.ni np
      refine ⟨.ref d, rfl, d, c, 2, rfl, D2.new np, by decide, by decide, fun r H4 r0 r1 D4 k4 => ?_⟩
      have e4 := k4 p _ ni upd_same
      have kk : Kp [d, c] H H4 := (k2.trans (Kp.new np)).trans k4
      rcases (show r = 0 ∨ r = 1 by omega) with rfl | rfl
      · exact ⟨p, _, _, _, rfl, rfl, lOf e4, atI_nat (j := 0) rfl, q _ H4 (by omega) (by omega) D4 kk⟩
      · exact ⟨p, _, _, _, rfl, rfl, lOf e4, atI_nat (j := 1) rfl, q _ H4 (by omega) (by omega) D4 kk⟩
def spSize : Sp := fun vs H Q _ => ∃ (d c : Addr), vs = [.ref d] ∧ Dl d c H ∧ ∀ (r : Nat) H', 1 ≤ r → r ≤ 60 → Dl d c H' → Kp [d, c] H H' → Q (.int r) H'
theorem ok_size (T : Txt K mg) {k : Nat} : FnOk P w K mg base CX0 (k + 2) T.law_size.f T.law_size.fd p_law_size spSize := by
  have G_law_draw : FnOk P w K mg base CX0 1 T.law_draw.f T.law_draw.fd p_law_draw spDraw := ok_draw T
  refine T.law_size.F.ok sc_law_size (fun vs H Q E h => ?_) (fun cdv A outer s H vs Q E hr h => ?_)
  · obtain ⟨d, c, rfl, _⟩ := h
    rfl
  · obtain ⟨d, c, rfl, hD, q0⟩ := h
    replace hr := hr.mono (show 1 ≤ k + 1 by omega)
    have q : ∀ (r : Int) H', 1 ≤ r → r ≤ 60 → Dl d c H' → Kp [d, c] H H' → Q (.int r) H' := fun r H' a b D k => by
      have := q0 r.toNat H' (by omega) (by omega) D k
      rwa [show ((r.toNat : Nat) : Int) = r by omega] at this
    refine ⟨_, (pss_cons (ps_if (pt_cmpR op_eq (pe_call G_law_draw (hr.mono (by decide)) (by rfl) T.law_draw.g T.law_draw.F.kp T.law_draw.b .nil pass0 (pa_cons (pv 0) (pa_cons pe_int pa_nil))) pe_int (nomark _)) (pss_one (ps_ret (pe_ix (ixLK K) (pe_lst (pa_cons pe_int (pa_cons (pe_op op_add pe_int (pe_call G_law_draw (hr.mono (by decide)) (by rfl) T.law_draw.g T.law_draw.F.kp T.law_draw.b .nil pass0 (pa_cons (pv 0) (pa_cons pe_int pa_nil)))) pa_nil))) (pe_call G_law_draw (hr.mono (by decide)) (by rfl) T.law_draw.g T.law_draw.F.kp T.law_draw.b .nil pass0 (pa_cons (pv 0) (pa_cons pe_int pa_nil))) (fun _ _ => rfl)))) pss_nil)
        (pss_one (ps_ret (pe_op op_add pe_int (pe_call G_law_draw (hr.mono (by decide)) (by rfl) T.law_draw.g T.law_draw.F.kp T.law_draw.b .nil pass0 (pa_cons (pv 0) (pa_cons pe_int pa_nil))))))), ?_⟩
    refine ⟨.ref d, rfl, d, c, 8, rfl, hD, by decide, by decide, fun r1 H1 l1 u1 D1 k1 => ?_⟩
    refine ⟨rfl, _, rfl, ite2 (fun _ => ?_) fun _ => ?_⟩
    · refine ⟨.ref d, rfl, d, c, 60, rfl, D1, by decide, by decide, fun r2 H2 l2 u2 D2 k2 => ?_⟩
      refine ⟨1, r2, rfl, rfl, (show (2 : Nat) ≤ sizeLine by decide), fun p np => ?_⟩
      have ni := D2.ni np
      refine ⟨.ref d, rfl, d, c, 2, rfl, D2.new np, by decide, by decide, fun r H4 r0 r1 D4 k4 => ?_⟩
      have e4 := k4 p _ ni upd_same
      have kk : Kp [d, c] H H4 := ((k1.trans k2).trans (Kp.new np)).trans k4
      rcases (show r = 0 ∨ r = 1 by omega) with rfl | rfl
      · exact ⟨p, _, _, _, rfl, rfl, lOf e4, atI_nat (j := 0) rfl, q _ H4 (by omega) (by omega) D4 kk⟩
      · exact ⟨p, _, _, _, rfl, rfl, lOf e4, atI_nat (j := 1) rfl, q _ H4 (by omega) (by omega) D4 kk⟩
    · exact ⟨.ref d, rfl, d, c, 8, rfl, D1, by decide, by decide, fun r2 H2 l2 u2 D2 k2 => ⟨1, r2, rfl, rfl, q _ H2 (by omega) (by omega) D2 (k1.trans k2)⟩⟩
def spBent : Sp := fun vs H Q _ => ∃ (d c : Addr) (many : Nat), vs = [.ref d, .int many] ∧ Dl d c H ∧ 1 ≤ many ∧ many ≤ 60 ∧ ∀ p xs H', H' p = some (.tup (xs.map V.int)) → xs.length = many → Up xs → (∀ x ∈ xs, -7000000000 ≤ x ∧ x ≤ 7000000000) → Dl d c H' → Kp [d, c] H H' → Q (.ref p) H'
theorem ok_bent_row (T : Txt K mg) {k : Nat} : FnOk P w K mg base CX0 (k + 2) T.law_bent_row.f T.law_bent_row.fd p_law_bent_row spBent := by
  have G_law_draw : FnOk P w K mg base CX0 1 T.law_draw.f T.law_draw.fd p_law_draw spDraw := ok_draw T
  refine T.law_bent_row.F.ok sc_law_bent_row (fun vs H Q E h => ?_) (fun cdv A outer s H vs Q E hr h => ?_)
  · obtain ⟨d, c, many, rfl, _⟩ := h
    rfl
  · obtain ⟨d, c, many, rfl, hD, m0, m1, q⟩ := h
    replace hr := hr.mono (show 1 ≤ k + 1 by omega)
    have nd := sc_law_bent_row.nd
    refine ⟨_, (pss_cons (ps_set (i := 2) nd rfl (Or.inr rfl) (pe_ix (ixLK K) (pe_lst (pa_cons pe_int (pa_cons pe_int (pa_cons (pe_op op_pow pe_int pe_int) pa_nil)))) (pe_call G_law_draw (hr.mono (by decide)) (by rfl) T.law_draw.g T.law_draw.F.kp T.law_draw.b .nil pass0 (pa_cons (pv 0) (pa_cons pe_int pa_nil))) (fun _ _ => rfl)))
        (pss_cons (ps_set (i := 3) nd rfl (Or.inr rfl) (pe_ix (ixLK K) (pe_lst (pa_cons pe_int (pa_cons pe_int pa_nil))) (pe_call G_law_draw (hr.mono (by decide)) (by rfl) T.law_draw.g T.law_draw.F.kp T.law_draw.b .nil pass0 (pa_cons (pv 0) (pa_cons pe_int pa_nil))) (fun _ _ => rfl)))
        (pss_cons (ps_set (i := 4) nd rfl (Or.inl rfl) (pe_lst (pa_cons (pe_op op_mul (pe_op op_sub (pe_call G_law_draw (hr.mono (by decide)) (by rfl) T.law_draw.g T.law_draw.F.kp T.law_draw.b .nil pass0 (pa_cons (pv 0) (pa_cons pe_int pa_nil))) pe_int) (pe_ix (ixLK K) (pe_lst (pa_cons pe_int (pa_cons (pe_op op_pow pe_int pe_int) pa_nil))) (pe_call G_law_draw (hr.mono (by decide)) (by rfl) T.law_draw.g T.law_draw.F.kp T.law_draw.b .nil pass0 (pa_cons (pv 0) (pa_cons pe_int pa_nil))) (fun _ _ => rfl))) pa_nil)))
        (pss_cons (ps_for PassesOwn.never rfl (piLK K (pe_callB (sorIK K) (by rfl) T.b_sorted (by decide +kernel) (pa_cons (pe_lc (own := [("_law_k", 6)]) rfl nd (pi_range1 (by rfl) T.b_range (pa_cons (pe_op op_sub (pv 1) pe_int) pa_nil)) (blkOk_by (own := [("_law_k", 6)]) (N := n_law_bent_row) (sc := defScope s_law_bent_row) (by decide +kernel)) (fun _ _ _ _ _ => (pg_name (i := 6) nd rfl (Or.inl rfl))) (fun _ _ _ _ _ => pts_nil) (fun _ _ _ _ _ => (pe_op op_mul (pe_op op_sub (pe_call G_law_draw (hr.mono (by decide)) (by rfl) T.law_draw.g T.law_draw.F.kp T.law_draw.b .nil pass0 (pa_cons (pv 0) (pa_cons (pv 3) pa_nil))) (pe_op op_fdiv (pv 3) pe_int)) (pv 2)))) pa_nil))) (pg_name (i := 5) nd rfl (Or.inl rfl)) (pss_one (ps_expr (pe_bm PySem.F.plainAttrs_list PySem.F.slot_list_append PySem.F.type_list_append mt_append (pv 4) (pa_cons (pe_op op_add (pe_ix (ixLK K) (pv 4) (pe_un un_neg pe_int) (fun _ _ => rfl)) (pv 5)) pa_nil)))))
        (pss_one (ps_ret (pe_callTy (tupK K) (by rfl) T.b_tuple (by decide +kernel) (pa_cons (pv 4) pa_nil)))))))), ?_⟩
    -- wide
    refine ⟨10, 6, rfl, rfl, ⟨by decide, by decide, by decide⟩, (show (3 : Nat) ≤ sizeLine by decide), fun p1 n1 => ?_⟩
    have i1 := hD.ni n1
    refine ⟨.ref d, rfl, d, c, 3, rfl, hD.new n1, by decide, by decide, fun r1 H1 a1 b1 D1 k1 => ?_⟩
    have e1 := k1 p1 _ i1 upd_same
    obtain ⟨wide, hwide, w0, w1⟩ : ∃ wide : Int, atI [V.int 1, V.int 3, V.int (10 ^ (6 : Int).toNat)] r1 = some (.int wide) ∧ 0 < wide ∧ wide ≤ 1000000 := by
      rcases (show r1 = 0 ∨ r1 = 1 ∨ r1 = 2 by omega) with rfl | rfl | rfl
      · exact ⟨_, atI_nat (j := 0) rfl, by decide, by decide⟩
      · exact ⟨_, atI_nat (j := 1) rfl, by decide, by decide⟩
      · exact ⟨_, atI_nat (j := 2) rfl, by decide, by decide⟩
    have kk1 : Kp [d, c] H H1 := (Kp.new n1).trans k1
    refine ⟨p1, _, _, .int wide, rfl, rfl, lOf e1, hwide, ?_⟩
    -- few
    refine ⟨(show (2 : Nat) ≤ sizeLine by decide), fun p2 n2 => ?_⟩
    have i2 := D1.ni n2
    refine ⟨.ref d, rfl, d, c, 2, rfl, D1.new n2, by decide, by decide, fun r2 H2 a2 b2 D2 k2 => ?_⟩
    have e2 := k2 p2 _ i2 upd_same
    obtain ⟨few, hfew, f0, f1⟩ : ∃ few : Int, atI [V.int 21, V.int 3] r2 = some (.int few) ∧ 0 < few ∧ few < 100 := by
      rcases (show r2 = 0 ∨ r2 = 1 by omega) with rfl | rfl
      · exact ⟨_, atI_nat (j := 0) rfl, by decide, by decide⟩
      · exact ⟨_, atI_nat (j := 1) rfl, by decide, by decide⟩
    have kk2 : Kp [d, c] H H2 := (kk1.trans (Kp.new n2)).trans k2
    refine ⟨p2, _, _, .int few, rfl, rfl, lOf e2, hfew, ?_⟩
    -- the first number
    refine ⟨.ref d, rfl, d, c, 2001, rfl, D2, by decide, by decide, fun r3 H3 a3 b3 D3 k3 => ?_⟩
    refine ⟨r3, 1000, rfl, rfl, 10, 5, rfl, rfl, ⟨by decide, by decide, by decide⟩, (show (2 : Nat) ≤ sizeLine by decide), fun p4 n4 => ?_⟩
    have i4 := D3.ni n4
    refine ⟨.ref d, rfl, d, c, 2, rfl, D3.new n4, by decide, by decide, fun r4 H4 a4 b4 D4 k4 => ?_⟩
    have e4 := k4 p4 _ i4 upd_same
    obtain ⟨sc, hsc, s0, s1⟩ : ∃ sc : Int, atI [V.int 1, V.int (10 ^ (5 : Int).toNat)] r4 = some (.int sc) ∧ 0 < sc ∧ sc ≤ 100000 := by
      rcases (show r4 = 0 ∨ r4 = 1 by omega) with rfl | rfl
      · exact ⟨_, atI_nat (j := 0) rfl, by decide, by decide⟩
      · exact ⟨_, atI_nat (j := 1) rfl, by decide, by decide⟩
    have kk4 : Kp [d, c] H H4 := ((kk2.trans k3).trans (Kp.new n4)).trans k4
    refine ⟨p4, _, _, .int sc, rfl, rfl, lOf e4, hsc, _, sc, rfl, rfl, cmulR (by omega) (by omega), (show (1 : Nat) ≤ sizeLine by decide), fun R nR => ?_⟩
    have iR := D4.ni nR
    dsimp only at nR ⊢
    have D5 := D4.new (o := .lst [.int ((r3 - 1000) * sc)]) nR
    have hR : upd H4 R (.lst [.int ((r3 - 1000) * sc)]) R = some (.lst [.int ((r3 - 1000) * sc)]) := upd_same
    have kk5 : Kp [d, c] H (upd H4 R (.lst [.int ((r3 - 1000) * sc)])) := kk4.trans (Kp.new nR)
    have nRH : H R = none := kk4.backM iR nR
    have bx0 := mul_bd (a := r3 - 1000) (w := sc) (A := 1000) (W := 100000) (by omega) (by omega) (by omega) (by omega) (by omega)
    generalize (r3 - 1000) * sc = x0 at D5 hR kk5 bx0 ⊢
    generalize upd H4 R (.lst [.int x0]) = H5 at D5 hR kk5 ⊢
    -- the steps
    refine ⟨.int many, rfl, many, 1, rfl, rfl, _, rfl, by omega, by omega, fun S nS => ?_⟩
    have iS := D5.ni nS
    rw [show ((many : Nat) - 1 : Int).toNat = many - 1 by omega]
    refine lc_it walk_range (LcE [d, c] H5 S (Dl d c) fun x => -100000000 ≤ x ∧ x ≤ 100000000) ⟨D5.new nS, Kp.new nS, [], upd_same, rfl, fun _ h => by cases h⟩ (fun _ _ _ _ => trivial) (fun i x Ha Hb hi hp hy => ?_) fun H6 hp => ?_
    · obtain ⟨DA, kA, ns, hx, lx, hR'⟩ := hp
      obtain ⟨rfl, rfl⟩ := hy
      refine ⟨rfl, .ref d, rfl, .int few, rfl, d, c, few, rfl, DA, f0, by omega, fun z Hc z0 z1 DC kC => ?_⟩
      refine ⟨.int few, rfl, few, _, rfl, rfl, ⟨by decide, by decide⟩, z, _, rfl, rfl, .int wide, rfl, _, wide, rfl, rfl, cmulR (by omega) (by omega), ?_⟩
      exact LcE.step (fun o => DC.up iS) (kA.trans kC) (kC S _ iS hx) lx hR' (small (m := 60) (by omega)) nS (mul_bd (A := 100) (W := 1000000) (by omega) (by omega) (by omega) (by omega) (by omega))
    obtain ⟨D6, k6, ns, hS, ls, hRn⟩ := hp
    refine ⟨S, ns, rfl, lOf hS, fun ns' U pm pw nU => ?_⟩
    have lns : ns'.length = many - 1 := by rw [pm.length_eq, ls]
    have hRs : ∀ x ∈ ns', -100000000 ≤ x ∧ x ≤ 100000000 := fun x hx => hRn x (pm.mem_iff.mp hx)
    have iU := D6.ni nU
    have hR6 := k6 R _ iR hR
    have kU : Kp [] H6 (upd H6 U (.lst (ns'.map V.int))) := Kp.new nU
    have eU : upd H6 U (.lst (ns'.map V.int)) U = some (.lst (ns'.map V.int)) := upd_same
    have hRU := kU R _ (by simp) hR6
    have DU := D6.new (o := .lst (ns'.map V.int)) nU
    have kk6 : Kp [d, c] H (upd H6 U (.lst (ns'.map V.int))) := (kk5.trans k6).trans (Kp.new nU)
    have neRU : R ≠ U := ne_of_none hR6 nU
    generalize upd H6 U (.lst (ns'.map V.int)) = H7 at kU eU hRU DU kk6 ⊢
    refine ⟨U, rfl, ⟨_, lOf eU⟩, ?_⟩
    refine for_it (walk_list (xs := ns'.map V.int)) (fun i σ H' => ∃ (y5 y6 : Option V) (xs : List Int), σ = [some (.ref d), some (.int many), some (.int wide), some (.int few), some (.ref R), y5, y6] ∧ Dl d c H' ∧ Kp [d, c] H H' ∧ H' U = some (.lst (ns'.map V.int)) ∧ H' R = some (.lst (xs.map V.int)) ∧ xs.length = i + 1 ∧ (∀ j, j < i → xs.getD (j + 1) 0 - xs.getD j 0 = ns'.getD j 0) ∧ ∀ j, j < i + 1 → -100000000 * ((j : Int) + 1) ≤ xs.getD j 0 ∧ xs.getD j 0 ≤ 100000000 * ((j : Int) + 1))
      ⟨none, none, [x0], rfl, DU, kk6, eU, hRU, rfl, fun j hj => absurd hj (Nat.not_lt_zero _), first_bd bx0⟩ (fun i σ H' _ hp => by obtain ⟨_, _, _, _, _, _, z, _⟩ := hp; exact lOf z) (fun i x σ Ha Hb hi hp hy => ?_) fun σ H8 hp => ?_
    · obtain ⟨y5, y6, xs, rfl, DA, kA, uA, rA, lx, hx, hbd⟩ := hp
      obtain ⟨rfl, hv⟩ := hy
      rw [List.length_map] at hi
      rw [ivAt hi] at hv
      cases hv
      refine ⟨.ref R, rfl, .inl ⟨rfl, _, lOf rA⟩, .ref R, rfl, 1, rfl, R, _, _, .int (xs.getD i 0), rfl, rfl, lOf rA, at_m1 (n := i) (by rw [List.length_map]; exact lx) (ivAt (by omega)), .int (ns'.getD i 0), rfl, _, _, rfl, rfl, R, _, _, rfl, rfl, rA, by rw [List.length_map]; exact small (m := 60) (by omega), ?_⟩
      refine ⟨_, _, xs ++ [xs.getD i 0 + ns'.getD i 0], rfl, DA.up iR, kA.mut nRH, by rw [upd_ne neRU.symm]; exact uA, by rw [upd_same, List.map_append]; rfl, by rw [List.length_append, lx]; rfl, fun j hj => ?_, fun j hj => ?_⟩
      rotate_left
      · by_cases cj : j < i + 1
        · rw [gd_left (by omega)]
          exact hbd j cj
        · have : j = i + 1 := by omega
          subst this
          rw [gd_last (by omega)]
          have h1 := hbd i (by omega)
          have h2 := hRs _ (List.mem_of_getElem? (dg hi))
          have e1 : ((i + 1 : Nat) : Int) = (i : Int) + 1 := by omega
          rw [e1]
          omega
      by_cases cj : j < i
      · rw [gd_left (by omega), gd_left (by omega)]
        exact hx j cj
      · have : j = i := by omega
        subst this
        rw [gd_last (i := j + 1) (by omega), gd_left (i := j) (by omega)]
        omega
    · obtain ⟨y5, y6, xs, rfl, DA, kA, uA, rA, lx, hx, hbd⟩ := hp
      rw [List.length_map] at lx hx hbd
      refine ⟨.ref R, rfl, R, _, rfl, .inl ⟨lOf rA, fun p np => ?_⟩⟩
      refine q p xs _ upd_same (by omega) ?_ (fun x hxm => ?_) (DA.new np) (kA.trans (Kp.new np))
      rotate_left
      · obtain ⟨j, hj, rfl⟩ := List.getElem_of_mem hxm
        have := hbd j (by omega)
        rw [gd (List.getElem?_eq_getElem hj)] at this
        omega
      intro i hi
      rw [hx i (by omega), hx (i + 1) (by omega)]
      have g1 : ns'[i]? = some (ns'.getD i 0) := dg (by omega)
      have g2 : ns'[i + 1]? = some (ns'.getD (i + 1) 0) := dg (by omega)
      obtain ⟨z1, z2⟩ := List.getElem?_eq_some_iff.mp g1
      obtain ⟨z3, z4⟩ := List.getElem?_eq_some_iff.mp g2
      rw [← z2, ← z4]
      exact List.pairwise_iff_getElem.mp pw i (i + 1) z1 z3 (by omega)
def spRow : Sp := fun vs H Q _ => ∃ (d c : Addr) (kind : Int) (many : Nat), vs = [.ref d, .int kind, .int many] ∧ Dl d c H ∧ 1 ≤ many ∧ many ≤ 60 ∧ ∀ p xs H', H' p = some (.tup (xs.map V.int)) → xs.length = many → (kind = 3 → Up xs) → (∀ x ∈ xs, -8000000000 ≤ x ∧ x ≤ 8000000000) → Dl d c H' → Kp [d, c] H H' → Q (.ref p) H'
theorem ok_row (T : Txt K mg) {k : Nat} : FnOk P w K mg base CX0 (k + 3) T.law_row.f T.law_row.fd p_law_row spRow := by
  have G_law_draw : FnOk P w K mg base CX0 1 T.law_draw.f T.law_draw.fd p_law_draw spDraw := ok_draw T
  have G_law_number : FnOk P w K mg base CX0 2 T.law_number.f T.law_number.fd p_law_number spNum := ok_number T
  have G_law_bent_row : FnOk P w K mg base CX0 2 T.law_bent_row.f T.law_bent_row.fd p_law_bent_row spBent := ok_bent_row T
  refine T.law_row.F.ok sc_law_row (fun vs H Q E h => ?_) (fun cdv A outer s H vs Q E hr h => ?_)
  · obtain ⟨d, c, kind, many, rfl, _⟩ := h
    rfl
  · obtain ⟨d, c, kind, many, rfl, hD, m0, m1, q⟩ := h
    replace hr := hr.mono (show 2 ≤ k + 2 by omega)
    have nd := sc_law_row.nd
    refine ⟨_, (pss_cons (ps_if (pt_cmpR op_eq (pv 1) pe_int (nomark _)) (pss_one (ps_ret (pe_callTy (tupK K) (by rfl) T.b_tuple (by decide +kernel) (pa_cons (pe_lc (own := [("_law_k", 5)]) rfl nd (pi_range1 (by rfl) T.b_range (pa_cons (pv 2) pa_nil)) (blkOk_by (own := [("_law_k", 5)]) (N := n_law_row) (sc := defScope s_law_row) (by decide +kernel)) (fun _ _ _ _ _ => (pg_name (i := 5) nd rfl (Or.inl rfl))) (fun _ _ _ _ _ => pts_nil) (fun _ _ _ _ _ => (pe_call G_law_number (hr.mono (by decide)) (by rfl) T.law_number.g T.law_number.F.kp T.law_number.b .nil pass0 (pa_cons (pv 0) pa_nil)))) pa_nil)))) pss_nil)
        (pss_cons (ps_if (pt_cmpR op_eq (pv 1) pe_int (nomark _)) (pss_one (ps_ret (pe_callTy (tupK K) (by rfl) T.b_tuple (by decide +kernel) (pa_cons (pe_lc (own := [("_law_k", 5)]) rfl nd (pi_range1 (by rfl) T.b_range (pa_cons (pv 2) pa_nil)) (blkOk_by (own := [("_law_k", 5)]) (N := n_law_row) (sc := defScope s_law_row) (by decide +kernel)) (fun _ _ _ _ _ => (pg_name (i := 5) nd rfl (Or.inl rfl))) (fun _ _ _ _ _ => pts_nil) (fun _ _ _ _ _ => (pe_call G_law_draw (hr.mono (by decide)) (by rfl) T.law_draw.g T.law_draw.F.kp T.law_draw.b .nil pass0 (pa_cons (pv 0) (pa_cons pe_int pa_nil))))) pa_nil)))) pss_nil)
        (pss_cons (ps_if (pt_cmpR op_eq (pv 1) pe_int (nomark _)) (pss_one (ps_ret (pe_op (repAK K) (pe_tup (pa_cons (pe_call G_law_number (hr.mono (by decide)) (by rfl) T.law_number.g T.law_number.F.kp T.law_number.b .nil pass0 (pa_cons (pv 0) pa_nil)) pa_nil)) (pv 2)))) pss_nil)
        (pss_cons (ps_set (i := 3) nd rfl (Or.inl rfl) (pe_call G_law_bent_row (hr.mono (by decide)) (by rfl) T.law_bent_row.g T.law_bent_row.F.kp T.law_bent_row.b .nil pass0 (pa_cons (pv 0) (pa_cons (pv 2) pa_nil))))
        (Evl.pss_cut (ps_if (pt_cmpR op_eq (pv 1) pe_int (nomark _)) (pss_one (ps_set (i := 3) nd rfl (Or.inl rfl) (pe_callTy (tupK K) (by rfl) T.b_tuple (by decide +kernel) (pa_cons (pe_lc (own := [("_law_number_here", 6)]) rfl nd (piTK K (pv 3)) (blkOk_by (own := [("_law_number_here", 6)]) (N := n_law_row) (sc := defScope s_law_row) (by decide +kernel)) (fun _ _ _ _ _ => (pg_name (i := 6) nd rfl (Or.inl rfl))) (fun _ _ _ _ _ => pts_nil) (fun _ _ _ _ _ => (pe_op op_sub pe_int (pv 6)))) pa_nil)))) pss_nil)
        (Evl.pss_cut (ps_if (pt_cmpR op_eq (pv 1) pe_int (nomark _)) (pss_cons (ps_set (i := 4) nd rfl (Or.inl rfl) (pe_call G_law_draw (hr.mono (by decide)) (by rfl) T.law_draw.g T.law_draw.F.kp T.law_draw.b .nil pass0 (pa_cons (pv 0) (pa_cons (pv 2) pa_nil))))
        (pss_one (ps_set (i := 3) nd rfl (Or.inl rfl) (pe_op (catAK K) (pe_op (catAK K) (pe_slice (slAK K) (pv 3) po_none (po_some (pv 4))) (pe_tup (pa_cons (pe_op op_add (pe_ix (ixTK K) (pv 3) (pv 4) (fun _ _ => rfl)) (pe_ix (ixLK K) (pe_lst (pa_cons pe_int (pa_cons (pe_un un_neg pe_int) (pa_cons pe_int pa_nil)))) (pe_call G_law_draw (hr.mono (by decide)) (by rfl) T.law_draw.g T.law_draw.F.kp T.law_draw.b .nil pass0 (pa_cons (pv 0) (pa_cons pe_int pa_nil))) (fun _ _ => rfl))) pa_nil))) (pe_slice (slAK K) (pv 3) (po_some (pe_op op_add (pv 4) pe_int)) po_none))))) pss_nil)
        (pss_one (ps_ret (pv 3))))))))), ?_⟩
    refine ⟨.int kind, rfl, rfl, _, rfl, ite2 (fun e0 => ?_) fun e0 => ?_⟩
    · have e0 : kind = 0 := V.int.inj (of_decide_eq_true e0)
      refine ⟨.int many, rfl, many, rfl, by omega, by omega, fun S nS => ?_⟩
      have iS := hD.ni nS
      rw [show ((many : Nat) : Int).toNat = many from Int.toNat_natCast _]
      refine lc_it walk_range (LcE [d, c] H S (Dl d c) fun x => -8000000000 ≤ x ∧ x ≤ 8000000000) ⟨hD.new nS, Kp.new nS, [], upd_same, rfl, fun _ h => by cases h⟩ (fun _ _ _ _ => trivial) (fun i x Ha Hb hi hp hy => ?_) fun H6 hp => ?_
      · obtain ⟨DA, kA, ns, hx, lx, hR⟩ := hp
        obtain ⟨rfl, rfl⟩ := hy
        refine ⟨rfl, .ref d, rfl, d, c, rfl, DA, fun z Hc z0 z1 DC kC => ?_⟩
        exact LcE.step (fun o => DC.up iS) (kA.trans kC) (kC S _ iS hx) lx hR (small (m := 60) (by omega)) nS ⟨by omega, by omega⟩
      · obtain ⟨D6, k6, ns, hS, ls, hR⟩ := hp
        exact ⟨S, _, rfl, .inl ⟨lOf hS, fun p np => q p ns _ upd_same ls (fun z => by omega) hR (D6.new np) (k6.trans (Kp.new np))⟩⟩
    refine ⟨.int kind, rfl, rfl, _, rfl, ite2 (fun e1 => ?_) fun e1 => ?_⟩
    · have e1 : kind = 1 := V.int.inj (of_decide_eq_true e1)
      refine ⟨.int many, rfl, many, rfl, by omega, by omega, fun S nS => ?_⟩
      have iS := hD.ni nS
      rw [show ((many : Nat) : Int).toNat = many from Int.toNat_natCast _]
      refine lc_it walk_range (LcE [d, c] H S (Dl d c) fun x => -8000000000 ≤ x ∧ x ≤ 8000000000) ⟨hD.new nS, Kp.new nS, [], upd_same, rfl, fun _ h => by cases h⟩ (fun _ _ _ _ => trivial) (fun i x Ha Hb hi hp hy => ?_) fun H6 hp => ?_
      · obtain ⟨DA, kA, ns, hx, lx, hR⟩ := hp
        obtain ⟨rfl, rfl⟩ := hy
        refine ⟨rfl, .ref d, rfl, d, c, 3, rfl, DA, by decide, by decide, fun z Hc z0 z1 DC kC => ?_⟩
        exact LcE.step (fun o => DC.up iS) (kA.trans kC) (kC S _ iS hx) lx hR (small (m := 60) (by omega)) nS ⟨by omega, by omega⟩
      · obtain ⟨D6, k6, ns, hS, ls, hR⟩ := hp
        exact ⟨S, _, rfl, .inl ⟨lOf hS, fun p np => q p ns _ upd_same ls (fun z => by omega) hR (D6.new np) (k6.trans (Kp.new np))⟩⟩
    refine ⟨.int kind, rfl, rfl, _, rfl, ite2 (fun e2 => ?_) fun e2 => ?_⟩
    · have e2 : kind = 2 := V.int.inj (of_decide_eq_true e2)
      refine ⟨.ref d, rfl, d, c, rfl, hD, fun n H1 n0 n1' D1 k1 => ⟨(show (1 : Nat) ≤ sizeLine by decide), fun p1 n1 => ?_⟩⟩
      have D2 := D1.new (o := .tup [.int n]) n1
      refine ⟨.int many, rfl, repA_any upd_same m0 (by omega) fun p H2 e3 k3 => ?_⟩
      refine q p (List.replicate many n) H2 (by rw [e3, List.map_replicate]) (by simp) (fun z => by omega) (fun x hx => by rw [List.eq_of_mem_replicate hx]; omega) (D2.kp k3 (by simp) (by simp)) ((k1.trans (Kp.new n1)).trans (k3.mono (by simp)))
    -- a bent one
    refine ⟨.ref d, rfl, .int many, rfl, d, c, many, rfl, hD, m0, m1, fun p xs H1 ep lx up bd D1 k1 => ?_⟩
    refine ⟨fun σ' H' => ∃ (p : Addr) (xs : List Int), σ' = [some (.ref d), some (.int kind), some (.int many), some (.ref p), none, none, none] ∧ H' p = some (.tup (xs.map V.int)) ∧ xs.length = many ∧ (kind = 3 → Up xs) ∧ (∀ x ∈ xs, -7000000000 ≤ x ∧ x ≤ 7000000000) ∧ Dl d c H' ∧ Kp [d, c] H H', ?_, ?_⟩
    · refine ⟨.int kind, rfl, rfl, _, rfl, ite2 (fun e4 => ?_) fun e4 => ?_⟩
      · have e4 : kind = 4 := V.int.inj (of_decide_eq_true e4)
        refine ⟨.ref p, rfl, p, rfl, ⟨_, tOf ep⟩, fun S nS => ?_⟩
        refine lc_it (walk_tup (xs := xs.map V.int)) (LcP [] H1 S fun i => .int (0 - xs.getD i 0)) (LcP.zero nS) (fun i H' _ hp => tOf (hp.1 p _ (by simp) ep)) (fun i x Ha Hb hi hp hy => ?_) fun H2 hp => ?_
        · obtain ⟨kA, hS⟩ := hp
          obtain ⟨rfl, hv⟩ := hy
          rw [List.length_map] at hi
          rw [ivAt hi] at hv
          cases hv
          refine ⟨rfl, .int (xs.getD i 0), rfl, _, _, rfl, rfl, ?_⟩
          exact LcP.step kA hS (small (m := 60) (by omega)) nS rfl
        · obtain ⟨k2, hS⟩ := hp
          rw [List.length_map, lx, map_of (xs := xs.map fun x => 0 - x) (by rw [List.length_map]; exact lx) (fun i hi => gd (by rw [List.getElem?_map, dg (by omega)]; rfl))] at hS
          refine ⟨S, _, rfl, .inl ⟨lOf hS, fun p2 n2 => ?_⟩⟩
          exact ⟨p2, _, rfl, upd_same, by rw [List.length_map]; exact lx, fun z => by omega, (fun x hx => by
            obtain ⟨y, hy, rfl⟩ := List.mem_map.mp hx
            have := bd y hy
            omega), (D1.kp k2 (by simp) (by simp)).new n2, (k1.trans (k2.mono (by simp))).trans (Kp.new n2)⟩
      · exact ⟨p, xs, rfl, ep, lx, fun _ => up, bd, D1, k1⟩
    · intro σ' H' hM
      obtain ⟨p, xs, rfl, ep, lx, up, bd, D1, k1⟩ := hM
      refine ⟨fun σ' H' => ∃ (p : Addr) (xs : List Int) (y4 : Option V), σ' = [some (.ref d), some (.int kind), some (.int many), some (.ref p), y4, none, none] ∧ H' p = some (.tup (xs.map V.int)) ∧ xs.length = many ∧ (kind = 3 → Up xs) ∧ (∀ x ∈ xs, -8000000000 ≤ x ∧ x ≤ 8000000000) ∧ Dl d c H' ∧ Kp [d, c] H H', ?_, ?_⟩
      · refine ⟨.int kind, rfl, rfl, _, rfl, ite2 (fun e5 => ?_) fun e5 => ?_⟩
        · have e5 : kind = 5 := V.int.inj (of_decide_eq_true e5)
          refine ⟨.ref d, rfl, .int many, rfl, d, c, many, rfl, D1, by omega, by omega, fun at_ H2 a0 a1 D2 k2 => ?_⟩
          obtain ⟨t, rfl⟩ : ∃ t : Nat, at_ = t := ⟨at_.toNat, by omega⟩
          have ep2 := k2 p _ ((NT.dl D1).ni ep) ep
          refine ⟨.ref p, rfl, .int t, rfl, t, rfl, slA_any ep2 fun pA H3 eA k3 => ?_⟩
          rw [show cutV (xs.map V.int) none (some (t : Int)) = (xs.map V.int).take t from cut_to _ t] at eA
          have D3 := D2.kp k3 (by simp) (by simp)
          have ep3 := k3 p _ (by simp) ep2
          refine ⟨.ref p, rfl, .int t, rfl, p, _, _, .int (xs.getD t 0), rfl, rfl, tOf ep3, atI_nat (ivAt (by omega)), 1, rfl, (show (3 : Nat) ≤ sizeLine by decide), fun pL nL => ?_⟩
          have iL := D3.ni nL
          refine ⟨.ref d, rfl, d, c, 3, rfl, D3.new nL, by decide, by decide, fun r H4 r0 r1 D4 k4 => ?_⟩
          have eL := k4 pL _ iL upd_same
          have k34 : Kp [d, c] H3 H4 := (Kp.new nL).trans k4
          have eA4 := k34 pA _ ((NT.dl D3).ni eA) eA
          have ep4 := k34 p _ ((NT.dl D3).ni ep3) ep3
          obtain ⟨df, hdf, df0, df1⟩ : ∃ df : Int, atI [V.int 1, V.int (-1), V.int 2] r = some (.int df) ∧ -2 ≤ df ∧ df ≤ 2 := by
            rcases (show r = 0 ∨ r = 1 ∨ r = 2 by omega) with rfl | rfl | rfl
            · exact ⟨_, atI_nat (j := 0) rfl, by decide, by decide⟩
            · exact ⟨_, atI_nat (j := 1) rfl, by decide, by decide⟩
            · exact ⟨_, atI_nat (j := 2) rfl, by decide, by decide⟩
          refine ⟨pL, _, _, .int df, rfl, rfl, lOf eL, hdf, _, _, rfl, rfl, (show (1 : Nat) ≤ sizeLine by decide), fun pT nT => ?_⟩
          have k5 : Kp [] H4 (upd H4 pT (.tup [.int (xs.getD t 0 + df)])) := Kp.new nT
          refine catA_any (k5 pA _ (by simp) eA4) upd_same (by rw [List.length_take, List.length_map]; exact Nat.le_of_lt (small (m := 100) (by simp; omega))) fun pB H6 eB k6 => ?_
          have ep6 := k6 p _ (by simp) (k5 p _ (by simp) ep4)
          refine ⟨.ref p, rfl, .int t, rfl, _, 1, rfl, rfl, _, rfl, ?_⟩
          dsimp only [tNoPart]
          refine slA_any ep6 fun pC H7 eC k7 => ?_
          rw [show cutV (xs.map V.int) (some ((t : Int) + 1)) none = (xs.map V.int).drop (t + 1) from cut_drop _ (t + 1)] at eC
          refine catA_any (k7 pB _ (by simp) eB) eC (by rw [List.length_append, List.length_take, List.length_drop, List.length_map]; exact Nat.le_of_lt (small (m := 200) (by simp; omega))) fun pD H8 eD k8 => ?_
          have k58 : Kp [] H4 H8 := ((k5.trans k6).trans k7).trans k8
          refine ⟨pD, xs.take t ++ [xs.getD t 0 + df] ++ xs.drop (t + 1), _, rfl, ?_, ?_, fun z => by omega, (fun x hx => ?_), D4.kp k58 (by simp) (by simp), (((k1.trans k2).trans (k3.mono (by simp))).trans k34).trans (k58.mono (by simp))⟩
          · rw [eD, List.map_append, List.map_append, List.map_take, List.map_drop]
            rfl
          · rw [List.length_append, List.length_append, List.length_take, List.length_drop]
            simp
            omega
          · have hx0 := bd _ (List.mem_of_getElem? (dg (show t < xs.length by omega)))
            rcases List.mem_append.mp hx with z | z
            · rcases List.mem_append.mp z with z | z
              · have := bd x (List.mem_of_mem_take z); omega
              · rw [List.mem_singleton.mp z]; omega
            · have := bd x (List.mem_of_mem_drop z); omega
        · exact ⟨p, xs, none, rfl, ep, lx, up, (fun x hx => by have := bd x hx; omega), D1, k1⟩
      · intro σ' H' hM
        obtain ⟨p, xs, y4, rfl, ep, lx, up, bd, D1, k1⟩ := hM
        exact ⟨.ref p, rfl, q p xs H' ep lx up bd D1 k1⟩
end
end K30

namespace K30
open PySem PySem.Spec PyProof.Rows L2 GenW BT
section
variable {P : Program} {w : World} {K : PySem.W.Frag} {mg : Str → Option Value} {base : Heap}
theorem rg_st {st en : Nat} : rgV (st : Int) (en : Int) = (List.range (en - st)).map fun (j : Nat) => V.int ((st + j : Nat) : Int) := by
  unfold rgV
  rw [show ((en : Int) - (st : Int)).toNat = en - st by omega]
  apply List.map_congr_left
  intro j _
  congr 1
theorem filt_step {p : Nat → Bool} {st j : Nat} : ((List.range (j + 1)).map (st + ·)).filter p = ((List.range j).map (st + ·)).filter p ++ (if p (st + j) = true then [st + j] else []) := by
  rw [List.range_succ, List.map_append, List.filter_append]
  congr 1
  show List.filter p [st + j] = _
  by_cases c : p (st + j) = true
  · rw [if_pos c, List.filter_cons_of_pos c]; rfl
  · rw [if_neg c, List.filter_cons_of_neg c]; rfl
/-- the first of the places at which the least sum stands -/
theorem filt_fi {xs ys : List Int} {i st en : Nat} {ls : List Nat} (x0 : 0 < xs.length) (y0 : 0 < ys.length) (hi : i + 1 < xs.length + ys.length) (hst : st = i + 1 - ys.length) (hen : en = min xs.length (i + 1)) {p : Nat → Bool} (hp : ∀ l, Vl xs ys i l → (p l = true ↔ SS xs ys i l = sm xs ys i)) (els : ls = ((List.range (en - st)).map (st + ·)).filter p) :
    ∃ t, ls = fi xs ys i :: t := by
  have vl : ∀ l, st ≤ l → l < en → Vl xs ys i l := fun l h1 h2 => ⟨by omega, by omega, by omega⟩
  have mem : ∀ l, l ∈ ls ↔ (st ≤ l ∧ l < en ∧ SS xs ys i l = sm xs ys i) := fun l => by
    rw [els, List.mem_filter]
    constructor
    · rintro ⟨h1, h2⟩
      obtain ⟨j, hj, rfl⟩ := List.mem_map.mp h1
      have := List.mem_range.mp hj
      exact ⟨by omega, by omega, (hp _ (vl _ (by omega) (by omega))).mp h2⟩
    · rintro ⟨h1, h2, h3⟩
      exact ⟨List.mem_map.mpr ⟨l - st, List.mem_range.mpr (by omega), by omega⟩, (hp _ (vl _ h1 h2)).mpr h3⟩
  have hv := fi_vl x0 y0 hi
  have hmem : fi xs ys i ∈ ls := (mem _).mpr ⟨by have := hv.2.2; omega, by have := hv.1; have := hv.2.1; omega, rfl⟩
  have hpw : ls.Pairwise (· < ·) := by
    rw [els]
    refine List.Pairwise.filter _ ?_
    exact List.pairwise_map.mpr (List.pairwise_lt_range.imp fun h => by omega)
  cases ls with
  | nil => cases hmem
  | cons l t =>
    refine ⟨t, ?_⟩
    have h1 := (mem l).mp List.mem_cons_self
    rcases List.mem_cons.mp hmem with c | c
    · rw [c]
    · have h2 := (List.pairwise_cons.mp hpw).1 _ c
      exact (fi_no x0 y0 hi h2 (vl _ h1.1 h1.2.1) h1.2.2).elim
def spLJ : Sp := fun vs H Q _ => ∃ (a b : Addr) (xs ys : List Int), vs = [.ref a, .ref b] ∧ H a = some (.tup (xs.map V.int)) ∧ H b = some (.tup (ys.map V.int)) ∧ 0 < xs.length ∧ xs.length ≤ 100 ∧ 0 < ys.length ∧ ys.length ≤ 100 ∧
  ∀ t s f H', H' t = some (.tup [.ref s, .ref f]) → H' s = some (.tup ((jsum xs ys).map V.int)) → H' f = some (.tup ((jfst xs ys).map V.int)) → Kp [] H H' → Q (.ref t) H'
theorem ok_law_joined (T : Txt K mg) {k : Nat} : FnOk P w K mg base CX0 (k + 1) T.law_joined.f T.law_joined.fd p_law_joined spLJ := by
  refine T.law_joined.F.ok sc_law_joined (fun vs H Q E h => ?_) (fun cdv A outer s H vs Q E hr h => ?_)
  · obtain ⟨a, b, xs, ys, rfl, _⟩ := h
    rfl
  · obtain ⟨a, b, xs, ys, rfl, hA, hB, x0, x1, y0, y1, q⟩ := h
    have nd := sc_law_joined.nd
    refine ⟨_, (pss_cons (ps_set (i := 2) nd rfl (Or.inr rfl) (pe_lst pa_nil))
        (pss_cons (ps_set (i := 3) nd rfl (Or.inl rfl) (pe_lst pa_nil))
        (pss_cons (ps_for PassesOwn.never rfl (pi_range1 (by rfl) T.b_range (pa_cons (pe_op op_sub (pe_op op_add (pe_callB (lenK K) (by rfl) T.b_len PySem.boot_len (pa_cons (pv 0) pa_nil)) (pe_callB (lenK K) (by rfl) T.b_len PySem.boot_len (pa_cons (pv 1) pa_nil))) pe_int) pa_nil)) (pg_name (i := 4) nd rfl (Or.inr rfl)) (pss_cons (ps_set (i := 5) nd rfl (Or.inl rfl) (pe_listRg rfl (by rfl) T.b_list (prg_2 (by rfl) T.b_range (pe_callB (call_max2 rfl) (by rfl) T.b_max (by decide +kernel) (pa_cons pe_int (pa_cons (pe_op op_add (pe_op op_sub (pv 4) (pe_callB (lenK K) (by rfl) T.b_len PySem.boot_len (pa_cons (pv 1) pa_nil))) pe_int) pa_nil))) (pe_callB (call_min2 rfl) (by rfl) T.b_min (by decide +kernel) (pa_cons (pe_callB (lenK K) (by rfl) T.b_len PySem.boot_len (pa_cons (pv 0) pa_nil)) (pa_cons (pe_op op_add (pv 4) pe_int) pa_nil))))))
        (pss_cons (ps_expr (pe_bm PySem.F.plainAttrs_list PySem.F.slot_list_append PySem.F.type_list_append mt_append (pv 2) (pa_cons (pe_callB (minK K rfl) (by rfl) T.b_min (by decide +kernel) (pa_cons (pe_lc (own := [("_law_i", 6)]) rfl nd (piLK K (pv 5)) (blkOk_by (own := [("_law_i", 6)]) (N := n_law_joined) (sc := defScope s_law_joined) (by decide +kernel)) (fun _ _ _ _ _ => (pg_name (i := 6) nd rfl (Or.inl rfl))) (fun _ _ _ _ _ => pts_nil) (fun _ _ _ _ _ => (pe_op op_add (pe_ix (ixTK K) (pv 0) (pv 6) (fun _ _ => rfl)) (pe_ix (ixTK K) (pv 1) (pe_op op_sub (pv 4) (pv 6)) (fun _ _ => rfl))))) pa_nil)) pa_nil)))
        (pss_one (ps_expr (pe_bm PySem.F.plainAttrs_list PySem.F.slot_list_append PySem.F.type_list_append mt_append (pv 3) (pa_cons (pe_ix (ixLK K) (pe_lc (own := [("_law_i", 6)]) rfl nd (piLK K (pv 5)) (blkOk_by (own := [("_law_i", 6)]) (N := n_law_joined) (sc := defScope s_law_joined) (by decide +kernel)) (fun _ _ _ _ _ => (pg_name (i := 6) nd rfl (Or.inl rfl))) (fun _ _ _ _ _ => (pts_one (pt_cmpR op_eq (pe_op op_add (pe_ix (ixTK K) (pv 0) (pv 6) (fun _ _ => rfl)) (pe_ix (ixTK K) (pv 1) (pe_op op_sub (pv 4) (pv 6)) (fun _ _ => rfl))) (pe_ix (ixLK K) (pv 2) (pe_un un_neg pe_int) (fun _ _ => rfl)) (nomark _)))) (fun _ _ _ _ _ => (pv 6))) pe_int (fun _ _ => rfl)) pa_nil)))))))
        (pss_one (ps_ret (pe_tup (pa_cons (pe_callTy (tupK K) (by rfl) T.b_tuple (by decide +kernel) (pa_cons (pv 2) pa_nil)) (pa_cons (pe_callTy (tupK K) (by rfl) T.b_tuple (by decide +kernel) (pa_cons (pv 3) pa_nil)) pa_nil)))))))), ?_⟩
    refine ⟨Nat.zero_le _, fun F nF => ?_⟩
    have kF : Kp [] H (upd H F (.lst [])) := Kp.new nF
    have eF : upd H F (.lst []) F = some (.lst []) := upd_same
    generalize upd H F (.lst []) = H1 at kF eF ⊢
    refine ⟨Nat.zero_le _, fun G nG => ?_⟩
    have kG : Kp [] H1 (upd H1 G (.lst [])) := Kp.new nG
    have eG : upd H1 G (.lst []) G = some (.lst []) := upd_same
    have neFG : F ≠ G := ne_of_none eF nG
    have nGH : H G = none := kF.back nG
    have eF2 := kG F _ (by simp) eF
    have kk := kF.trans kG
    generalize upd H1 G (.lst []) = H2 at kG eG eF2 kk ⊢
    refine ⟨.ref a, rfl, a, _, rfl, .inr (tOf (kk a _ (by simp) hA)), .ref b, rfl, b, _, rfl, .inr (tOf (kk b _ (by simp) hB)), _, _, rfl, rfl, _, 1, rfl, rfl, _, rfl, by rw [List.length_map, List.length_map]; omega, by rw [List.length_map, List.length_map]; omega, ?_⟩
    have eN : ((((xs.map V.int).length : Nat) : Int) + ((ys.map V.int).length : Nat) - 1).toNat = xs.length + ys.length - 1 := by rw [List.length_map, List.length_map]; omega
    rw [eN]
    refine for_it walk_range (fun i σ H' => ∃ (y4 y5 y6 : Option V), σ = [some (.ref a), some (.ref b), some (.ref F), some (.ref G), y4, y5, y6] ∧ Kp [] H H' ∧ H' F = some (.lst ((List.range i).map fun k => V.int (sm xs ys k))) ∧ H' G = some (.lst ((List.range i).map fun k => V.int (fi xs ys k : Int)))) ⟨_, _, _, rfl, kk, eF2, eG⟩ (fun _ _ _ _ _ => trivial) (fun i x σ Ha Hb hi hp hy => ?_) fun σ Ha hp => ?_
    · obtain ⟨y4, y5, y6, rfl, kA, hF, hGl⟩ := hp
      obtain ⟨rfl, rfl⟩ := hy
      have hA1 := kA a _ (by simp) hA
      have hB1 := kA b _ (by simp) hB
      refine ⟨.int (0 + (i : Nat)), rfl, .ref b, rfl, b, _, rfl, .inr (tOf hB1), _, _, rfl, rfl, _, 1, rfl, rfl, 0, _, rfl, ?_⟩
      obtain ⟨st, hst⟩ : ∃ st : Nat, st = i + 1 - ys.length := ⟨_, rfl⟩
      have est : (if (0 + (i : Int)) - ((ys.map V.int).length : Nat) + 1 > 0 then (0 + (i : Int)) - ((ys.map V.int).length : Nat) + 1 else 0) = (st : Int) := by
        rw [List.length_map]
        split <;> omega
      try dsimp only
      rw [est]
      refine ⟨.ref a, rfl, a, _, rfl, .inr (tOf hA1), .int (0 + (i : Nat)), rfl, _, 1, rfl, rfl, _, _, rfl, ?_⟩
      obtain ⟨en, hen⟩ : ∃ en : Nat, en = min xs.length (i + 1) := ⟨_, rfl⟩
      have een : (if (0 + (i : Int)) + 1 < (((xs.map V.int).length : Nat) : Int) then (0 + (i : Int)) + 1 else (((xs.map V.int).length : Nat) : Int)) = (en : Int) := by
        rw [List.length_map]
        split <;> omega
      try dsimp only
      rw [een]
      refine ⟨_, _, rfl, rfl, RgOk.of_le (by omega) (by omega) (by omega) (by omega), fun S nS => ?_⟩
      have nS' : Hb S = none := nS
      have kS : Kp [] Hb (upd Hb S (.lst (rgV (st : Int) (en : Int)))) := Kp.new nS'
      have eS : upd Hb S (.lst (rgV (st : Int) (en : Int))) S = some (.lst ((List.range (en - st)).map fun (j : Nat) => V.int ((st + j : Nat) : Int))) := by rw [upd_same, rg_st]
      generalize upd Hb S (.lst (rgV (st : Int) (en : Int))) = H3 at kS eS ⊢
      have hF3 := kS F _ (by simp) hF
      have hG3 := kS G _ (by simp) hGl
      have hA3 := kS a _ (by simp) hA1
      have hB3 := kS b _ (by simp) hB1
      -- the least sum
      refine ⟨.ref F, rfl, .inl ⟨rfl, _, lOf hF3⟩, .ref S, rfl, S, rfl, ⟨_, lOf eS⟩, fun D nD => ?_⟩
      refine lc_it (walk_list (xs := (List.range (en - st)).map fun (j : Nat) => V.int ((st + j : Nat) : Int))) (LcP [] H3 D fun j => .int (SS xs ys i (st + j))) (LcP.zero nD) (fun j H' _ hp => lOf (hp.1 S _ (by simp) eS)) (fun j x Hc Hd hj hp hy => ?_) fun H4 hp => ?_
      · obtain ⟨kC, hD⟩ := hp
        obtain ⟨rfl, hv⟩ := hy
        rw [List.length_map, List.length_range] at hj
        rw [List.getElem?_map, List.getElem?_range hj] at hv
        have ex : x = .int ((st + j : Nat) : Int) := (Option.some.inj hv).symm
        subst ex
        refine ⟨rfl, .ref a, rfl, .int ((st + j : Nat) : Int), rfl, a, _, _, .int (xs.getD (st + j) 0), rfl, rfl, tOf (kC a _ (by simp) hA3), at_i (n := st + j) rfl (ivAt (by omega)), .ref b, rfl, .int (0 + (i : Nat)), rfl, .int ((st + j : Nat) : Int), rfl, _, _, rfl, rfl, b, _, _, .int (ys.getD (i - (st + j)) 0), rfl, rfl, tOf (kC b _ (by simp) hB3), at_i (n := i - (st + j)) (by omega) (ivAt (by omega)), _, _, rfl, rfl, ?_⟩
        exact LcP.step kC hD (small (m := 1000) (by omega)) nD rfl
      obtain ⟨k4, hD⟩ := hp
      rw [List.length_map, List.length_range, show ((List.range (en - st)).map fun j => V.int (SS xs ys i (st + j))) = ((List.range (en - st)).map fun j => SS xs ys i (st + j)).map V.int by rw [List.map_map]; rfl] at hD
      refine ⟨D, _, rfl, lOf hD, by rw [List.length_map, List.length_range]; omega, fun m hm hle => ?_⟩
      have em : m = sm xs ys i := by
        obtain ⟨j, hj, ej⟩ := List.mem_map.mp hm
        have hj := List.mem_range.mp hj
        refine (sm_eq x0 y0 (k := i) (i := st + j) (by omega) ⟨by omega, by omega, by omega⟩ ej.symm fun l vl => ?_).symm
        obtain ⟨v1, v2, v3⟩ := vl
        have := hle _ (List.mem_map.mpr ⟨l - st, List.mem_range.mpr (by omega), rfl⟩)
        rwa [show st + (l - st) = l by omega] at this
      have hF4 := k4 F _ (by simp) hF3
      refine ⟨F, _, _, rfl, rfl, hF4, by rw [List.length_map, List.length_range]; exact small (m := 1000) (by omega), ?_⟩
      have neSF : S ≠ F := fun z => by rw [z] at nS'; rw [nS'] at hF; cases hF
      have k5 : Kp [] H (upd H4 F (.lst ((List.range i).map (fun k => V.int (sm xs ys k)) ++ [.int m]))) := ((kA.trans kS).trans k4).mut nF
      have eF5 : upd H4 F (.lst ((List.range i).map (fun k => V.int (sm xs ys k)) ++ [.int m])) F = some (.lst ((List.range (i + 1)).map fun k => V.int (sm xs ys k))) := by rw [upd_same, List.range_succ, List.map_append, em]; rfl
      have eS5 : upd H4 F (.lst ((List.range i).map (fun k => V.int (sm xs ys k)) ++ [.int m])) S = some (.lst ((List.range (en - st)).map fun (j : Nat) => V.int ((st + j : Nat) : Int))) := by rw [upd_ne neSF]; exact k4 S _ (by simp) eS
      have eG5 : upd H4 F (.lst ((List.range i).map (fun k => V.int (sm xs ys k)) ++ [.int m])) G = some (.lst ((List.range i).map fun k => V.int (fi xs ys k : Int))) := by rw [upd_ne neFG.symm]; exact k4 G _ (by simp) hG3
      generalize upd H4 F (.lst ((List.range i).map (fun k => V.int (sm xs ys k)) ++ [.int m])) = H5 at k5 eF5 eS5 eG5 ⊢
      have hA5 := k5 a _ (by simp) hA
      have hB5 := k5 b _ (by simp) hB
      -- the first place
      refine ⟨.ref G, rfl, .inl ⟨rfl, _, lOf eG5⟩, .ref S, rfl, S, rfl, ⟨_, lOf eS5⟩, fun D2 nD2 => ?_⟩
      refine lc_it (walk_list (xs := (List.range (en - st)).map fun (j : Nat) => V.int ((st + j : Nat) : Int))) (fun j H' => Kp [] H5 H' ∧ ∃ ls : List Nat, H' D2 = some (.lst (ls.map fun (l : Nat) => V.int (l : Int))) ∧ ls = ((List.range j).map (st + ·)).filter fun l => decide (SS xs ys i l = sm xs ys i)) ⟨Kp.new nD2, [], upd_same, rfl⟩ (fun j H' _ hp => lOf (hp.1 S _ (by simp) eS5)) (fun j x Hc Hd hj hp hy => ?_) fun H6 hp => ?_
      · obtain ⟨kC, ls, hD, els⟩ := hp
        obtain ⟨rfl, hv⟩ := hy
        rw [List.length_map, List.length_range] at hj
        rw [List.getElem?_map, List.getElem?_range hj] at hv
        have ex : x = .int ((st + j : Nat) : Int) := (Option.some.inj hv).symm
        subst ex
        have hFc := kC F _ (by simp) eF5
        refine ⟨rfl, .ref a, rfl, .int ((st + j : Nat) : Int), rfl, a, _, _, .int (xs.getD (st + j) 0), rfl, rfl, tOf (kC a _ (by simp) hA5), at_i (n := st + j) rfl (ivAt (by omega)), .ref b, rfl, .int (0 + (i : Nat)), rfl, .int ((st + j : Nat) : Int), rfl, _, _, rfl, rfl, b, _, _, .int (ys.getD (i - (st + j)) 0), rfl, rfl, tOf (kC b _ (by simp) hB5), at_i (n := i - (st + j)) (by omega) (ivAt (by omega)),
          _, _, rfl, rfl, .ref F, rfl, 1, rfl, F, _, _, .int (sm xs ys i), rfl, rfl, lOf hFc, at_m1 (n := i) (by rw [List.length_map, List.length_range]) (by rw [List.getElem?_map, List.getElem?_range (by omega)]; rfl), rfl, _, rfl, ite2 (fun e => ?_) fun e => ?_⟩
        · have e' : decide (SS xs ys i (st + j) = sm xs ys i) = true := decide_eq_true (V.int.inj (of_decide_eq_true e))
          refine ⟨.int ((st + j : Nat) : Int), rfl, _, hD, ?_, kC.mut nD2, ls ++ [st + j], by rw [upd_same, List.map_append]; rfl, ?_⟩
          · rw [List.length_map, els]
            exact small (m := 1000) (Nat.le_trans (List.length_filter_le _ _) (by rw [List.length_map, List.length_range]; omega))
          · rw [filt_step, ← els, if_pos e']
        · refine ⟨kC, ls, hD, ?_⟩
          have e' : ¬ decide (SS xs ys i (st + j) = sm xs ys i) = true := fun z => e (decide_eq_true (congrArg V.int (of_decide_eq_true z)))
          rw [filt_step, ← els, if_neg e', List.append_nil]
      obtain ⟨k6, ls, hD2, els⟩ := hp
      rw [List.length_map, List.length_range] at els
      obtain ⟨t, el⟩ := filt_fi x0 y0 (i := i) (by omega) hst hen (fun l _ => decide_eq_true_iff) els
      have hG6 := k6 G _ (by simp) eG5
      refine ⟨D2, _, _, .int (fi xs ys i : Int), rfl, rfl, lOf hD2, atI_nat (j := 0) (by rw [el]; rfl), G, _, _, rfl, rfl, hG6, by rw [List.length_map, List.length_range]; exact small (m := 1000) (by omega), ?_⟩
      refine ⟨_, _, _, rfl, (k5.trans k6).mut nGH, by rw [upd_ne neFG]; exact k6 F _ (by simp) eF5, ?_⟩
      rw [upd_same, List.range_succ, List.map_append]
      rfl
    · obtain ⟨y4, y5, y6, rfl, kA, hF, hGl⟩ := hp
      refine ⟨.ref F, rfl, F, _, rfl, .inl ⟨lOf hF, fun p1 n1 => ?_⟩⟩
      have k1 : Kp [] Ha (upd Ha p1 (.tup ((List.range (xs.length + ys.length - 1)).map fun k => V.int (sm xs ys k)))) := Kp.new n1
      have e1 : upd Ha p1 (.tup ((List.range (xs.length + ys.length - 1)).map fun k => V.int (sm xs ys k))) p1 = some (.tup ((jsum xs ys).map V.int)) := by rw [upd_same]; unfold jsum; rw [List.map_map]; rfl
      generalize upd Ha p1 (.tup ((List.range (xs.length + ys.length - 1)).map fun k => V.int (sm xs ys k))) = H7 at k1 e1 ⊢
      refine ⟨.ref G, rfl, G, _, rfl, .inl ⟨lOf (k1 G _ (by simp) hGl), fun p2 n2 => ?_⟩⟩
      have k2 : Kp [] H7 (upd H7 p2 (.tup ((List.range (xs.length + ys.length - 1)).map fun k => V.int (fi xs ys k : Int)))) := Kp.new n2
      have e2 : upd H7 p2 (.tup ((List.range (xs.length + ys.length - 1)).map fun k => V.int (fi xs ys k : Int))) p2 = some (.tup ((jfst xs ys).map V.int)) := by rw [upd_same]; unfold jfst; rw [List.map_map]; rfl
      generalize upd H7 p2 (.tup ((List.range (xs.length + ys.length - 1)).map fun k => V.int (fi xs ys k : Int))) = H8 at k2 e2 ⊢
      refine ⟨(show (2 : Nat) ≤ sizeLine by decide), fun t nt => ?_⟩
      have k3 : Kp [] H8 (upd H8 t (.tup [.ref p1, .ref p2])) := Kp.new nt
      exact q t p1 p2 _ upd_same (k3 p1 _ (by simp) (k2 p1 _ (by simp) e1)) (k3 p2 _ (by simp) e2) (((kA.trans k1).trans k2).trans k3)
end
end K30

namespace K30
open PySem PySem.Spec PyProof.Rows L2 GenW BT
section
variable {P : Program} {w : World} {K : PySem.W.Frag} {mg : Str → Option Value} {base : Heap}
def spI0 : Sp := fun vs H Q _ => ∃ (M : List Addr) (k : Nat) (v : V) (n : Int), vs = [v, .int n] ∧ Th M H k v ∧ ∀ b, (b = true ↔ v = .int n) → Q (.bl b) H
theorem ok_is_same0 (T : Txt K mg) {k : Nat} : FnOk P w K mg base CX0 (k + 1) T.is_same.f T.is_same.fd p_is_same spI0 := by
  refine BT.Fun.okC T.is_same.F T.h_is_same sc_is_same (fun vs H Q E h => ?_) (fun A outer s H vs Q E hr h => ?_)
  · obtain ⟨M, k, v, n, rfl, _⟩ := h
    rfl
  · obtain ⟨M, kk, v, n, rfl, t, q⟩ := h
    have nd := sc_is_same.nd
    refine ⟨_, (pss_cons (ps_if (pt_val (pe_callB (isiK K) (by rfl) T.b_isinstance (by decide +kernel) (pa_cons (pv 1) (pa_cons (pe_bltn (v := .ty "tuple") (by rfl) T.b_tuple (by decide +kernel) rfl) pa_nil)))) pss_never pss_nil)
        (pss_one (ps_ret (pe_and (pe_cmpR (eqTI M hr.units) (pv 0) (pv 1) (nomark _)) (pe_one (pe_cmpR op_eq (pe_callB (isiK K) (by rfl) T.b_isinstance (by decide +kernel) (pa_cons (pv 0) (pa_cons (pe_bltn (v := .ty "bool") (by rfl) T.b_bool (by decide +kernel) rfl) pa_nil))) (pe_callB (isiK K) (by rfl) T.b_isinstance (by decide +kernel) (pa_cons (pv 1) (pa_cons (pe_bltn (v := .ty "bool") (by rfl) T.b_bool (by decide +kernel) rfl) pa_nil))) (nomark _))))))), ?_⟩
    refine ⟨.int n, rfl, .int n, .ty "tuple", _, _, false, rfl, .ty "tuple", .base (.int _), kit_ty (by decide +kernel), false, rfl, iteF ?_⟩
    refine ⟨v, rfl, .int n, rfl, n, kk, rfl, t, fun b hb1 hb2 => ⟨b, rfl, ?_⟩⟩
    cases b with
    | false => exact iteF (q false ⟨fun z => (by cases z), fun z => absurd (hb2 z) (by simp)⟩)
    | true =>
      refine iteT ?_
      obtain ⟨Ty, ty, hT, h1, h2, h3⟩ := t.isi (K := K)
      obtain ⟨_, kb, _⟩ := kitS K hT
      refine ⟨v, rfl, v, .ty "bool", _, _, decide (Ty = "bool"), rfl, .ty "bool", ty, kb, .int n, rfl, .int n, .ty "bool", _, _, false, rfl, .ty "bool", .base (.int _), kit_ty (by decide +kernel), rfl, ?_⟩
      rcases hb1 rfl with e | ⟨c, e⟩
      · have nb : ¬ Ty = "bool" := fun z => by
          obtain ⟨c, e2⟩ := h2.mp z
          rw [e] at e2
          cases e2
        rw [decide_eq_false nb]
        exact q true ⟨fun _ => e, fun _ => rfl⟩
      · have yb : Ty = "bool" := h2.mpr ⟨c, e⟩
        rw [decide_eq_true yb]
        exact q false ⟨fun z => (by cases z), fun z => by rw [e] at z; cases z⟩
/-- a tuple of just these numbers -/
def S1 (H : Hp) (v : V) (ys : List Int) : Prop := ∃ a, v = .ref a ∧ H a = some (.tup (ys.map V.int))
def spI1 (Ps : List Addr) : Sp := fun vs H Q _ => ∃ (M : List Addr) (k : Nat) (v : V) (b : Addr) (ys : List Int), vs = [v, .ref b] ∧ Th M H k v ∧ H b = some (.tup (ys.map V.int)) ∧ ys.length ≤ 1000 ∧ TbG Ps H ∧ ∀ bb H', (bb = true ↔ S1 H v ys) → Kp Ps H H' → TbG Ps H' → Q (.bl bb) H'
theorem th_at {M : List Addr} {H : Hp} {k : Nat} {a : Addr} {xs : List V} (t : Th M H k (.ref a)) (e : H a = some (.tup xs)) : ∃ k', k = k' + 1 ∧ ∀ x ∈ xs, Th M H k' x := by
  cases t with
  | lst hm h hz hx => rw [e] at h; cases h
  | tup h hz hx => rw [e] at h; cases h; exact ⟨_, rfl, hx⟩
  | dct hm h => rw [e] at h; cases h
theorem ok_is_same1 (T : Txt K mg) (Ps : List Addr) (hP : T.P_is_same ∈ Ps) (TB : TabB base mg T.c_is_same T.P_is_same) {k : Nat} : FnOk P w K mg base CX0 (k + 6) T.is_same.f T.is_same.fd p_is_same (spI1 Ps) := by
  have G_is_same : FnOk P w K mg base CX0 1 T.is_same.f T.is_same.fd p_is_same spI0 := ok_is_same0 T
  refine BT.Fun.okC T.is_same.F T.h_is_same sc_is_same (fun vs H Q E h => ?_) (fun A outer s H vs Q E hr h => ?_)
  · obtain ⟨M, k, v, b, ys, rfl, _⟩ := h
    rfl
  · obtain ⟨M, kk, v, b, ys, rfl, t, hB, hl, hG, q⟩ := h
    replace hr := hr.mono (show 5 ≤ k + 5 by omega)
    have nd := sc_is_same.nd
    refine ⟨_, (pss_cons (ps_if (pt_val (pe_callB (isiK K) (by rfl) T.b_isinstance (by decide +kernel) (pa_cons (pv 1) (pa_cons (pe_bltn (v := .ty "tuple") (by rfl) T.b_tuple (by decide +kernel) rfl) pa_nil)))) (pss_cons (ps_if (PW.pt (pw_or (pt_not (pt_val (pe_callB (isiK K) (by rfl) T.b_isinstance (by decide +kernel) (pa_cons (pv 0) (pa_cons (pe_bltn (v := .ty "tuple") (by rfl) T.b_tuple (by decide +kernel) rfl) pa_nil))))) (pw_or1 (pt_cmpR op_ne (pe_callB (lenK K) (by rfl) T.b_len PySem.boot_len (pa_cons (pv 0) pa_nil)) (pe_callB (lenK K) (by rfl) T.b_len PySem.boot_len (pa_cons (pv 1) pa_nil)) (nomark _))))) (pss_one (ps_ret pe_bl)) pss_nil)
        (pss_one (ps_ret (pe_allG (k := 1) (js := [none, none]) (N := ["part", "right"]) (hr.mono (by decide)) TB rfl (gxOk_by (XN := n_is_same) (xs := defScope s_is_same) (by decide +kernel)) (pzTK K (by rfl) T.b_zip (pa_cons (pv 0) (pa_cons (pv 1) pa_nil))) (fun _ => rfl) (fun _ _ _ _ _ _ _ _ _ _ => (pgTK K (n := 2) (by rfl) (pgs_cons (pg_name (i := 0) (show (["part", "right"] : List Str).Nodup by decide +kernel) rfl (Or.inl rfl)) (pgs_cons (pg_name (i := 1) (show (["part", "right"] : List Str).Nodup by decide +kernel) rfl (Or.inl rfl)) pgs_nil)))) (fun _ _ _ _ _ _ _ _ _ hrg => (pe_call G_is_same (hrg.mono (by decide)) (by rfl) T.is_same.g T.is_same.F.kp T.is_same.b .nil pass0 (pa_cons (pv 0) (pa_cons (pv 1) pa_nil)))) (by rfl) T.b_all)))) pss_nil)
        (pss_one (ps_ret (pe_and (pe_cmpR (eqTI M hr.units) (pv 0) (pv 1) (nomark _)) (pe_one (pe_cmpR op_eq (pe_callB (isiK K) (by rfl) T.b_isinstance (by decide +kernel) (pa_cons (pv 0) (pa_cons (pe_bltn (v := .ty "bool") (by rfl) T.b_bool (by decide +kernel) rfl) pa_nil))) (pe_callB (isiK K) (by rfl) T.b_isinstance (by decide +kernel) (pa_cons (pv 1) (pa_cons (pe_bltn (v := .ty "bool") (by rfl) T.b_bool (by decide +kernel) rfl) pa_nil))) (nomark _))))))), ?_⟩
    refine ⟨.ref b, rfl, .ref b, .ty "tuple", _, _, true, rfl, .ty "tuple", .base (.tup hB), kit_ty (by decide +kernel), true, rfl, iteT ?_⟩
    obtain ⟨Ty, ty, hT, h1, h2, h3⟩ := t.isi (K := K)
    obtain ⟨kt, _⟩ := kitS K hT
    refine ⟨v, rfl, v, .ty "tuple", _, _, decide (Ty = "tuple"), rfl, .ty "tuple", ty, kt, _, rfl, ?_⟩
    by_cases hty : Ty = "tuple"
    · rw [decide_eq_true hty]
      refine iteF ?_
      obtain ⟨a, xs, rfl, hA⟩ := h1.mp hty
      obtain ⟨k', rfl, tx⟩ := th_at t hA
      refine ⟨.ref a, rfl, a, _, rfl, .inr (tOf hA), .ref b, rfl, b, _, rfl, .inr (tOf hB), rfl, _, rfl, ?_⟩
      by_cases hln : xs.length = ys.length
      · rw [decide_eq_true (show V.int ((xs.length : Nat) : Int) = V.int ((((ys.map V.int).length : Nat)) : Int) by rw [List.length_map, hln])]
        refine iteF ?_
        refine ⟨.ref a, rfl, .ref b, rfl, a, b, _, _, rfl, .inr ⟨tOf hA, tOf hB, hG _ hP, fun H3 tb => ?_⟩⟩
        obtain ⟨G3, k3⟩ := hG.tabbed hP tb
        have hA3 := tupT hG k3 hA
        have hB3 := tupT hG k3 hB
        refine all_it (walk_zipT (xs := xs) (ys := ys.map V.int) (n := ys.length) (by rw [List.length_map, hln, Nat.min_self])) (small (m := 1000) hl) (fun i H' => Kp [] H3 H' ∧ ∀ j, j < i → xs[j]? = some (.int (ys.getD j 0))) ⟨Kp.refl _, fun j hj => absurd hj (Nat.not_lt_zero _)⟩
          (fun i H' _ hp => ⟨tOf (hp.1 a _ (by simp) hA3), tOf (hp.1 b _ (by simp) hB3)⟩) (fun i x Ha Hb hi hp hy => ?_) fun H5 hp => ?_
        · obtain ⟨T1, x1, y1, rfl, nT, rfl, hx1, hy1⟩ := hy
          dsimp only at hx1 hy1
          obtain ⟨kA, hS⟩ := hp
          rw [ivAt hi] at hy1
          cases hy1
          have kB : Kp [] Ha (upd Ha T1 (.tup [x1, .int (ys.getD i 0)])) := Kp.new nT
          have t1 := (tx x1 (List.mem_of_getElem? hx1)).sv (((hG.sv k3).trans kA.sv).trans kB.sv)
          refine ⟨T1, _, rfl, tOf upd_same, rfl, _, _, rfl, _, _, rfl, rfl, ⟨rfl, fun m v e => ?_⟩, x1, rfl, .int (ys.getD i 0), rfl, M, k', x1, ys.getD i 0, rfl, t1, fun bb hb => ⟨small (m := 1000) (by omega), bb, rfl, ?_⟩⟩
          · rcases m with _ | _ | m <;> cases e
          · cases bb with
            | true =>
              refine iteT ⟨by omega, kA.trans kB, fun j hj => ?_⟩
              by_cases c : j < i
              · exact hS j c
              · have : j = i := by omega
                subst this
                rw [hx1, hb.mp rfl]
            | false =>
              refine iteF (q false _ ⟨fun z => (by cases z), fun ⟨a', e1, e2⟩ => ?_⟩ (k3.trans ((kA.trans kB).mono (by simp))) (G3.kp0 (kA.trans kB)))
              cases e1
              rw [hA] at e2
              have exs : xs = ys.map V.int := HO.tup.inj (Option.some.inj e2)
              rw [exs, ivAt hi] at hx1
              exact absurd (hb.mpr (Option.some.inj hx1).symm) (by simp)
        · obtain ⟨kA, hS⟩ := hp
          refine q true _ ⟨fun _ => ⟨a, rfl, ?_⟩, fun _ => rfl⟩ (k3.trans (kA.mono (by simp))) (G3.kp0 kA)
          rw [hA]
          congr 2
          apply List.ext_getElem?
          intro j
          by_cases hj : j < ys.length
          · rw [hS j hj, ivAt hj]
          · rw [List.getElem?_eq_none (by omega), List.getElem?_eq_none (by rw [List.length_map]; omega)]
      · rw [decide_eq_false (show ¬ V.int ((xs.length : Nat) : Int) = V.int ((((ys.map V.int).length : Nat)) : Int) from fun z => hln (by
          have z1 := V.int.inj z
          rw [List.length_map] at z1
          omega))]
        refine iteT (q false H ⟨fun z => (by cases z), fun ⟨a', e1, e2⟩ => ?_⟩ (Kp.refl H) hG)
        cases e1
        rw [hA] at e2
        have exs : xs = ys.map V.int := HO.tup.inj (Option.some.inj e2)
        exact absurd (by rw [exs, List.length_map]) hln
    · rw [decide_eq_false hty]
      refine iteT (iteT (q false H ⟨fun z => (by cases z), fun ⟨a', e1, e2⟩ => ?_⟩ (Kp.refl H) hG))
      exact absurd (h1.mpr ⟨a', _, e1, e2⟩) hty
theorem S1.sv {M : List Addr} {H H' : Hp} {v : V} {ys : List Int} (s : Sv M H H') (h : S1 H v ys) : S1 H' v ys := by
  obtain ⟨a, e, h⟩ := h
  exact ⟨a, e, s.2.1 _ _ h⟩
theorem S1.back {M : List Addr} {H H' : Hp} {k : Nat} {v : V} {ys : List Int} (t : Th M H k v) (s : Sv M H H') (h : S1 H' v ys) : S1 H v ys := by
  obtain ⟨a, rfl, h⟩ := h
  cases t with
  | lst hm e hz hx => rw [s.1 _ _ hm e] at h; cases h
  | tup e hz hx => rw [s.2.1 _ _ e] at h; exact ⟨a, rfl, by rw [e]; exact h⟩
  | dct hm e => rw [s.2.2 _ hm e] at h; cases h
def S2 (H : Hp) (v : V) (xs ys : List Int) : Prop := ∃ t x1 x2, v = .ref t ∧ H t = some (.tup [x1, x2]) ∧ S1 H x1 xs ∧ S1 H x2 ys
/-- the told pair -/
def Pr2 (H : Hp) (b : Addr) (xs ys : List Int) : Prop := ∃ s f, H b = some (.tup [.ref s, .ref f]) ∧ H s = some (.tup (xs.map V.int)) ∧ H f = some (.tup (ys.map V.int))
def spI2 (Ps : List Addr) : Sp := fun vs H Q _ => ∃ (M : List Addr) (k : Nat) (v : V) (b : Addr) (xs ys : List Int), vs = [v, .ref b] ∧ Th M H k v ∧ Pr2 H b xs ys ∧ xs.length ≤ 1000 ∧ ys.length ≤ 1000 ∧ TbG Ps H ∧ ∀ bb H', (bb = true ↔ S2 H v xs ys) → Kp Ps H H' → TbG Ps H' → Q (.bl bb) H'
theorem two_of {xs : List V} (h : xs.length = 2) : ∃ x1 x2, xs = [x1, x2] := by
  match xs, h with
  | [x1, x2], _ => exact ⟨x1, x2, rfl⟩
theorem ok_is_same2 (T : Txt K mg) (Ps : List Addr) (hP : T.P_is_same ∈ Ps) (TB : TabB base mg T.c_is_same T.P_is_same) {k : Nat} : FnOk P w K mg base CX0 (k + 11) T.is_same.f T.is_same.fd p_is_same (spI2 Ps) := by
  have G_is_same : FnOk P w K mg base CX0 6 T.is_same.f T.is_same.fd p_is_same (spI1 Ps) := ok_is_same1 T Ps hP TB
  refine BT.Fun.okC T.is_same.F T.h_is_same sc_is_same (fun vs H Q E h => ?_) (fun A outer s H vs Q E hr h => ?_)
  · obtain ⟨M, k, v, b, xs, ys, rfl, _⟩ := h
    rfl
  · obtain ⟨M, kk, v, b, xs, ys, rfl, t, ⟨s, f, hB, hs, hf⟩, lx, ly, hG, q⟩ := h
    replace hr := hr.mono (show 10 ≤ k + 10 by omega)
    have nd := sc_is_same.nd
    refine ⟨_, (pss_cons (ps_if (pt_val (pe_callB (isiK K) (by rfl) T.b_isinstance (by decide +kernel) (pa_cons (pv 1) (pa_cons (pe_bltn (v := .ty "tuple") (by rfl) T.b_tuple (by decide +kernel) rfl) pa_nil)))) (pss_cons (ps_if (PW.pt (pw_or (pt_not (pt_val (pe_callB (isiK K) (by rfl) T.b_isinstance (by decide +kernel) (pa_cons (pv 0) (pa_cons (pe_bltn (v := .ty "tuple") (by rfl) T.b_tuple (by decide +kernel) rfl) pa_nil))))) (pw_or1 (pt_cmpR op_ne (pe_callB (lenK K) (by rfl) T.b_len PySem.boot_len (pa_cons (pv 0) pa_nil)) (pe_callB (lenK K) (by rfl) T.b_len PySem.boot_len (pa_cons (pv 1) pa_nil)) (nomark _))))) (pss_one (ps_ret pe_bl)) pss_nil)
        (pss_one (ps_ret (pe_allG (k := 6) (js := [none, none]) (N := ["part", "right"]) (hr.mono (by decide)) TB rfl (gxOk_by (XN := n_is_same) (xs := defScope s_is_same) (by decide +kernel)) (pzTK K (by rfl) T.b_zip (pa_cons (pv 0) (pa_cons (pv 1) pa_nil))) (fun _ => rfl) (fun _ _ _ _ _ _ _ _ _ _ => (pgTK K (n := 2) (by rfl) (pgs_cons (pg_name (i := 0) (show (["part", "right"] : List Str).Nodup by decide +kernel) rfl (Or.inl rfl)) (pgs_cons (pg_name (i := 1) (show (["part", "right"] : List Str).Nodup by decide +kernel) rfl (Or.inl rfl)) pgs_nil)))) (fun _ _ _ _ _ _ _ _ _ hrg => (pe_call G_is_same (hrg.mono (by decide)) (by rfl) T.is_same.g T.is_same.F.kp T.is_same.b .nil pass0 (pa_cons (pv 0) (pa_cons (pv 1) pa_nil)))) (by rfl) T.b_all)))) pss_nil)
        (pss_one (ps_ret (pe_and (pe_cmpR (eqTI M hr.units) (pv 0) (pv 1) (nomark _)) (pe_one (pe_cmpR op_eq (pe_callB (isiK K) (by rfl) T.b_isinstance (by decide +kernel) (pa_cons (pv 0) (pa_cons (pe_bltn (v := .ty "bool") (by rfl) T.b_bool (by decide +kernel) rfl) pa_nil))) (pe_callB (isiK K) (by rfl) T.b_isinstance (by decide +kernel) (pa_cons (pv 1) (pa_cons (pe_bltn (v := .ty "bool") (by rfl) T.b_bool (by decide +kernel) rfl) pa_nil))) (nomark _))))))), ?_⟩
    refine ⟨.ref b, rfl, .ref b, .ty "tuple", _, _, true, rfl, .ty "tuple", .base (.tup hB), kit_ty (by decide +kernel), true, rfl, iteT ?_⟩
    obtain ⟨Ty, ty, hT, h1, h2, h3⟩ := t.isi (K := K)
    obtain ⟨kt, _⟩ := kitS K hT
    refine ⟨v, rfl, v, .ty "tuple", _, _, decide (Ty = "tuple"), rfl, .ty "tuple", ty, kt, _, rfl, ?_⟩
    by_cases hty : Ty = "tuple"
    · rw [decide_eq_true hty]
      refine iteF ?_
      obtain ⟨a, zs, rfl, hA⟩ := h1.mp hty
      obtain ⟨k', rfl, tx⟩ := th_at t hA
      refine ⟨.ref a, rfl, a, _, rfl, .inr (tOf hA), .ref b, rfl, b, _, rfl, .inr (tOf hB), rfl, _, rfl, ?_⟩
      by_cases hln : zs.length = 2
      · rw [decide_eq_true (show V.int ((zs.length : Nat) : Int) = V.int ((([V.ref s, V.ref f].length : Nat)) : Int) by rw [hln]; rfl)]
        refine iteF ?_
        obtain ⟨z1, z2, rfl⟩ := two_of hln
        refine ⟨.ref a, rfl, .ref b, rfl, a, b, _, _, rfl, .inr ⟨tOf hA, tOf hB, hG _ hP, fun H3 tb => ?_⟩⟩
        obtain ⟨G3, k3⟩ := hG.tabbed hP tb
        have hA3 := tupT hG k3 hA
        have hB3 := tupT hG k3 hB
        have noS2 : ∀ {u1 u2 : V}, S2 H (.ref a) xs ys → u1 = z1 → u2 = z2 → S1 H u1 xs ∧ S1 H u2 ys := fun {u1 u2} h e1 e2 => by
          obtain ⟨t', y1, y2, e, h', g1, g2⟩ := h
          cases e
          rw [hA] at h'
          have e3 : [z1, z2] = [y1, y2] := HO.tup.inj (Option.some.inj h')
          cases e3
          rw [e1, e2]
          exact ⟨g1, g2⟩
        refine all_it (walk_zipT (xs := [z1, z2]) (ys := [.ref s, .ref f]) (n := 2) rfl) (by decide) (fun i H' => Kp Ps H3 H' ∧ TbG Ps H' ∧ (0 < i → S1 H z1 xs) ∧ (1 < i → S1 H z2 ys)) ⟨Kp.refl _, G3, fun z => absurd z (by omega), fun z => absurd z (by omega)⟩
          (fun i H' _ hp => ⟨tOf (tupT G3 hp.1 hA3), tOf (tupT G3 hp.1 hB3)⟩) (fun i x Ha Hb hi hp hy => ?_) fun H5 hp => ?_
        · obtain ⟨T1, x1, y1, rfl, nT, rfl, hx1, hy1⟩ := hy
          dsimp only at hx1 hy1
          obtain ⟨kA, gA, hS1, hS2⟩ := hp
          have kB : Kp [] Ha (upd Ha T1 (.tup [x1, y1])) := Kp.new nT
          have gB := gA.kp0 kB
          have svB : Sv M H (upd Ha T1 (.tup [x1, y1])) := ((hG.sv k3).trans (G3.sv kA)).trans kB.sv
          obtain ⟨c, zs', rfl, hc, lz⟩ : ∃ c zs', y1 = .ref c ∧ H c = some (.tup (zs'.map V.int)) ∧ zs'.length ≤ 1000 ∧ ((i = 0 ∧ x1 = z1 ∧ zs' = xs) ∨ (i = 1 ∧ x1 = z2 ∧ zs' = ys)) := by
            rcases (show i = 0 ∨ i = 1 by omega) with rfl | rfl
            · exact ⟨s, xs, (Option.some.inj hy1).symm, hs, lx, .inl ⟨rfl, (Option.some.inj hx1).symm, rfl⟩⟩
            · exact ⟨f, ys, (Option.some.inj hy1).symm, hf, ly, .inr ⟨rfl, (Option.some.inj hx1).symm, rfl⟩⟩
          have tx1 := tx x1 (List.mem_of_getElem? hx1)
          refine ⟨T1, _, rfl, tOf upd_same, rfl, _, _, rfl, _, _, rfl, rfl, ⟨rfl, fun m v e => ?_⟩, x1, rfl, .ref c, rfl, M, k', x1, c, zs', rfl, tx1.sv svB, svB.2.1 _ _ hc, lz.1, gB, fun bb H6 hb k6 g6 => ⟨Nat.lt_of_lt_of_le hi (by decide), bb, rfl, ?_⟩⟩
          · rcases m with _ | _ | m <;> cases e
          · have hb' : bb = true ↔ S1 H x1 zs' := hb.trans ⟨S1.back tx1 svB, S1.sv svB⟩
            have k36 : Kp Ps H3 H6 := (kA.trans (kB.mono (by simp))).trans k6
            cases bb with
            | true =>
              refine iteT ⟨by omega, k36, g6, fun _ => ?_, fun hi1 => ?_⟩
              · rcases lz.2 with ⟨rfl, rfl, rfl⟩ | ⟨rfl, rfl, rfl⟩
                · exact hb'.mp rfl
                · exact hS1 (by omega)
              · rcases lz.2 with ⟨rfl, rfl, rfl⟩ | ⟨rfl, rfl, rfl⟩
                · omega
                · exact hb'.mp rfl
            | false =>
              refine iteF (q false _ ⟨fun z => (by cases z), fun h => ?_⟩ (k3.trans k36) g6)
              obtain ⟨g1, g2⟩ := noS2 h rfl rfl
              rcases lz.2 with ⟨rfl, rfl, rfl⟩ | ⟨rfl, rfl, rfl⟩
              · exact absurd (hb'.mpr g1) (by simp)
              · exact absurd (hb'.mpr g2) (by simp)
        · obtain ⟨kA, gA, hS1, hS2⟩ := hp
          exact q true _ ⟨fun _ => ⟨a, z1, z2, rfl, hA, hS1 (by omega), hS2 (by omega)⟩, fun _ => rfl⟩ (k3.trans kA) gA
      · rw [decide_eq_false (show ¬ V.int ((zs.length : Nat) : Int) = V.int ((([V.ref s, V.ref f].length : Nat)) : Int) from fun z => hln (by
          have z1 := V.int.inj z
          have z2 : ([V.ref s, V.ref f].length : Nat) = 2 := rfl
          omega))]
        refine iteT (q false H ⟨fun z => (by cases z), fun ⟨t', y1, y2, e1, e2, _⟩ => ?_⟩ (Kp.refl H) hG)
        cases e1
        rw [hA] at e2
        have exs : zs = [y1, y2] := HO.tup.inj (Option.some.inj e2)
        exact absurd (by rw [exs]; rfl) hln
    · rw [decide_eq_false hty]
      refine iteT (iteT (q false H ⟨fun z => (by cases z), fun ⟨t', y1, y2, e1, e2, _⟩ => ?_⟩ (Kp.refl H) hG))
      exact absurd (h1.mpr ⟨t', _, e1, e2⟩) hty
end
end K30

namespace K30
open PySem PySem.Spec PyProof.Rows L2 GenW BT
section
variable {P : Program} {w : World} {K : PySem.W.Frag} {mg : Str → Option Value} {base : Heap}
def spL0 : Sp := fun vs H Q _ => ∃ (M : List Addr) (k : Nat) (v : V) (n : Int), vs = [v, .int n] ∧ Th M H k v ∧ ∀ b H', (b = true ↔ v = .int n) → Kp [] H H' → Q (.bl b) H'
theorem ok_same0 (T : Txt K mg) {k : Nat} : FnOk P w K mg base CX0 (k + 1) T.law_same.f T.law_same.fd p_law_same spL0 := by
  refine T.law_same.F.ok sc_law_same (fun vs H Q E h => ?_) (fun cdv A outer s H vs Q E hr h => ?_)
  · obtain ⟨M, k, v, n, rfl, _⟩ := h
    rfl
  · obtain ⟨M, kk, v, n, rfl, t, q⟩ := h
    have nd := sc_law_same.nd
    refine ⟨_, (pss_cons (ps_if (pt_val (pe_callB (isiK K) (by rfl) T.b_isinstance (by decide +kernel) (pa_cons (pv 1) (pa_cons (pe_bltn (v := .ty "tuple") (by rfl) T.b_tuple (by decide +kernel) rfl) pa_nil)))) pss_never pss_nil)
        (pss_cons (ps_if (PW.pt (pw_or (pt_val (pe_callB (isiTK K) (by rfl) T.b_isinstance (by decide +kernel) (pa_cons (pv 0) (pa_cons (pe_tup (pa_cons (pe_bltn (v := .ty "tuple") (by rfl) T.b_tuple (by decide +kernel) rfl) (pa_cons (pe_bltn (v := .ty "list") (by rfl) T.b_list (by decide +kernel) rfl) (pa_cons (pe_bltn (v := .ty "dict") (by rfl) T.b_dict (by decide +kernel) rfl) pa_nil)))) pa_nil)))) (pw_or1 (pt_cmpR op_ne (pe_callB (isiK K) (by rfl) T.b_isinstance (by decide +kernel) (pa_cons (pv 0) (pa_cons (pe_bltn (v := .ty "bool") (by rfl) T.b_bool (by decide +kernel) rfl) pa_nil))) (pe_callB (isiK K) (by rfl) T.b_isinstance (by decide +kernel) (pa_cons (pv 1) (pa_cons (pe_bltn (v := .ty "bool") (by rfl) T.b_bool (by decide +kernel) rfl) pa_nil))) (nomark _))))) (pss_one (ps_ret pe_bl)) pss_nil)
        (pss_one (ps_ret (pe_cmpR (eqTI M hr.units) (pv 0) (pv 1) (nomark _)))))), ?_⟩
    refine ⟨.int n, rfl, .int n, .ty "tuple", _, _, false, rfl, .ty "tuple", .base (.int _), kit_ty (by decide +kernel), false, rfl, iteF ?_⟩
    refine ⟨v, rfl, (show (3 : Nat) ≤ sizeLine by decide), fun p np => ?_⟩
    have kn : Kp [] H (upd H p (.tup [.ty "tuple", .ty "list", .ty "dict"])) := Kp.new np
    have ep : upd H p (.tup [.ty "tuple", .ty "list", .ty "dict"]) p = some (.tup [.ty "tuple", .ty "list", .ty "dict"]) := upd_same
    generalize upd H p (.tup [.ty "tuple", .ty "list", .ty "dict"]) = H1 at kn ep ⊢
    have t1 := t.sv (M := M) kn.sv
    obtain ⟨Ty, ty, hT, h1, h2, h3⟩ := t1.isi (K := K)
    obtain ⟨kt, kb, kl, kd, ki⟩ := kitS K hT
    obtain ⟨b3, hb3, hk3⟩ : ∃ b3, PySem.W.kitAny K (.type Ty) [.type "tuple", .type "list", .type "dict"] = some b3 ∧ (b3 = true ↔ Ty = "tuple" ∨ Ty = "list" ∨ Ty = "dict") := by
      simp only [List.mem_cons, List.not_mem_nil, or_false] at hT
      rcases hT with rfl | rfl | rfl | rfl | rfl | rfl | rfl
      · exact ⟨false, kitAny_cons kt (fun _ => kitAny_cons kl (fun _ => kitAny_cons kd (fun _ => rfl) (by decide)) (by decide)) (by decide), by decide⟩
      · exact ⟨false, kitAny_cons kt (fun _ => kitAny_cons kl (fun _ => kitAny_cons kd (fun _ => rfl) (by decide)) (by decide)) (by decide), by decide⟩
      · exact ⟨false, kitAny_cons kt (fun _ => kitAny_cons kl (fun _ => kitAny_cons kd (fun _ => rfl) (by decide)) (by decide)) (by decide), by decide⟩
      · exact ⟨false, kitAny_cons kt (fun _ => kitAny_cons kl (fun _ => kitAny_cons kd (fun _ => rfl) (by decide)) (by decide)) (by decide), by decide⟩
      · exact ⟨true, kitAny_cons kt (fun _ => kitAny_cons kl (fun z => absurd z (by decide)) (fun _ => rfl)) (fun z => absurd z (by decide)), by decide⟩
      · exact ⟨true, kitAny_cons kt (fun z => absurd z (by decide)) (fun _ => rfl), by decide⟩
      · exact ⟨true, kitAny_cons kt (fun _ => kitAny_cons kl (fun _ => kitAny_cons kd (fun z => absurd z (by decide)) (fun _ => rfl)) (fun z => absurd z (by decide))) (fun z => absurd z (by decide)), by decide⟩
    refine ⟨v, p, _, _, _, b3, rfl, ep, .cons (.ty _) (.cons (.ty _) (.cons (.ty _) .nil)), ty, hb3, b3, rfl, ?_⟩
    cases b3 with
    | true =>
      refine iteT (iteT (q false H1 ⟨fun z => (by cases z), fun z => ?_⟩ kn))
      have hi := h3.mpr ⟨n, z⟩
      rcases hk3.mp rfl with e | e | e <;> rw [hi] at e <;> exact absurd e (by decide)
    | false =>
      refine iteF ?_
      refine ⟨v, rfl, v, .ty "bool", _, _, decide (Ty = "bool"), rfl, .ty "bool", ty, kb, .int n, rfl, .int n, .ty "bool", _, _, false, rfl, .ty "bool", .base (.int _), kit_ty (by decide +kernel), rfl, _, rfl, ?_⟩
      by_cases hb : Ty = "bool"
      · rw [decide_eq_true hb]
        refine iteT (q false H1 ⟨fun z => (by cases z), fun z => ?_⟩ kn)
        have hi := h3.mpr ⟨n, z⟩
        rw [hb] at hi
        exact absurd hi (by decide)
      · rw [decide_eq_false hb]
        refine iteF ?_
        refine ⟨v, rfl, .int n, rfl, n, kk, rfl, t1, fun b hb1 hb2 => q b H1 ⟨fun z => ?_, hb2⟩ kn⟩
        rcases hb1 z with e | e
        · exact e
        · exact absurd (h2.mpr e) hb
theorem all_iff {bs : List Bool} : bs.all id = true ↔ ∀ b ∈ bs, b = true := by
  rw [List.all_eq_true]
  exact Iff.rfl
def spL1 : Sp := fun vs H Q _ => ∃ (M : List Addr) (k : Nat) (v : V) (b : Addr) (ys : List Int), vs = [v, .ref b] ∧ Th M H k v ∧ H b = some (.tup (ys.map V.int)) ∧ ys.length ≤ 1000 ∧ ∀ bb H', (bb = true ↔ S1 H v ys) → Kp [] H H' → Q (.bl bb) H'
theorem ok_same1 (T : Txt K mg) {k : Nat} : FnOk P w K mg base CX0 (k + 2) T.law_same.f T.law_same.fd p_law_same spL1 := by
  have G_law_same : FnOk P w K mg base CX0 1 T.law_same.f T.law_same.fd p_law_same spL0 := ok_same0 T
  refine T.law_same.F.ok sc_law_same (fun vs H Q E h => ?_) (fun cdv A outer s H vs Q E hr h => ?_)
  · obtain ⟨M, k, v, b, ys, rfl, _⟩ := h
    rfl
  · obtain ⟨M, kk, v, b, ys, rfl, t, hB, hl, q⟩ := h
    replace hr := hr.mono (show 1 ≤ k + 1 by omega)
    have nd := sc_law_same.nd
    refine ⟨_, (pss_cons (ps_if (pt_val (pe_callB (isiK K) (by rfl) T.b_isinstance (by decide +kernel) (pa_cons (pv 1) (pa_cons (pe_bltn (v := .ty "tuple") (by rfl) T.b_tuple (by decide +kernel) rfl) pa_nil)))) (pss_cons (ps_if (PW.pt (pw_or (pt_not (pt_val (pe_callB (isiK K) (by rfl) T.b_isinstance (by decide +kernel) (pa_cons (pv 0) (pa_cons (pe_bltn (v := .ty "tuple") (by rfl) T.b_tuple (by decide +kernel) rfl) pa_nil))))) (pw_or1 (pt_cmpR op_ne (pe_callB (lenK K) (by rfl) T.b_len PySem.boot_len (pa_cons (pv 0) pa_nil)) (pe_callB (lenK K) (by rfl) T.b_len PySem.boot_len (pa_cons (pv 1) pa_nil)) (nomark _))))) (pss_one (ps_ret pe_bl)) pss_nil)
        (pss_one (ps_ret (pe_callB (allK K rfl) (by rfl) T.b_all (by decide +kernel) (pa_cons (pe_lc (own := [("_law_here", 2), ("_law_there", 3)]) rfl nd (pzTK K (by rfl) T.b_zip (pa_cons (pv 0) (pa_cons (pv 1) pa_nil))) (blkOk_by (own := [("_law_here", 2), ("_law_there", 3)]) (N := n_law_same) (sc := defScope s_law_same) (by decide +kernel)) (fun _ _ _ _ _ => (pgTK K (n := 2) (by rfl) (pgs_cons (pg_name (i := 2) nd rfl (Or.inl rfl)) (pgs_cons (pg_name (i := 3) nd rfl (Or.inl rfl)) pgs_nil)))) (fun _ _ _ _ _ => pts_nil) (fun _ _ _ _ _ => (pe_call G_law_same (hr.mono (by decide)) (by rfl) T.law_same.g T.law_same.F.kp T.law_same.b .nil pass0 (pa_cons (pv 2) (pa_cons (pv 3) pa_nil))))) pa_nil))))) pss_nil)
        (pss_cons (ps_if (PW.pt (pw_or (pt_val (pe_callB (isiTK K) (by rfl) T.b_isinstance (by decide +kernel) (pa_cons (pv 0) (pa_cons (pe_tup (pa_cons (pe_bltn (v := .ty "tuple") (by rfl) T.b_tuple (by decide +kernel) rfl) (pa_cons (pe_bltn (v := .ty "list") (by rfl) T.b_list (by decide +kernel) rfl) (pa_cons (pe_bltn (v := .ty "dict") (by rfl) T.b_dict (by decide +kernel) rfl) pa_nil)))) pa_nil)))) (pw_or1 (pt_cmpR op_ne (pe_callB (isiK K) (by rfl) T.b_isinstance (by decide +kernel) (pa_cons (pv 0) (pa_cons (pe_bltn (v := .ty "bool") (by rfl) T.b_bool (by decide +kernel) rfl) pa_nil))) (pe_callB (isiK K) (by rfl) T.b_isinstance (by decide +kernel) (pa_cons (pv 1) (pa_cons (pe_bltn (v := .ty "bool") (by rfl) T.b_bool (by decide +kernel) rfl) pa_nil))) (nomark _))))) (pss_one (ps_ret pe_bl)) pss_nil)
        (pss_one (ps_ret (pe_cmpR (eqTI M hr.units) (pv 0) (pv 1) (nomark _)))))), ?_⟩
    refine ⟨.ref b, rfl, .ref b, .ty "tuple", _, _, true, rfl, .ty "tuple", .base (.tup hB), kit_ty (by decide +kernel), true, rfl, iteT ?_⟩
    obtain ⟨Ty, ty, hT, h1, h2, h3⟩ := t.isi (K := K)
    obtain ⟨kt, _⟩ := kitS K hT
    refine ⟨v, rfl, v, .ty "tuple", _, _, decide (Ty = "tuple"), rfl, .ty "tuple", ty, kt, _, rfl, ?_⟩
    by_cases hty : Ty = "tuple"
    · rw [decide_eq_true hty]
      refine iteF ?_
      obtain ⟨a, xs, rfl, hA⟩ := h1.mp hty
      obtain ⟨k', rfl, tx⟩ := th_at t hA
      refine ⟨.ref a, rfl, a, _, rfl, .inr (tOf hA), .ref b, rfl, b, _, rfl, .inr (tOf hB), rfl, _, rfl, ?_⟩
      by_cases hln : xs.length = ys.length
      · rw [decide_eq_true (show V.int ((xs.length : Nat) : Int) = V.int ((((ys.map V.int).length : Nat)) : Int) by rw [List.length_map, hln])]
        refine iteF ?_
        refine ⟨.ref a, rfl, .ref b, rfl, a, b, _, _, rfl, .inr ⟨tOf hA, tOf hB, fun D nD => ?_⟩⟩
        refine lc_it (walk_zipT (xs := xs) (ys := ys.map V.int) (n := ys.length) (by rw [List.length_map, hln, Nat.min_self])) (fun i H' => Kp [] H H' ∧ ∃ bs : List Bool, H' D = some (.lst (bs.map V.bl)) ∧ bs.length = i ∧ ∀ (j : Nat) bb, bs[j]? = some bb → (bb = true ↔ xs[j]? = some (.int (ys.getD j 0)))) ⟨Kp.new nD, [], upd_same, rfl, fun j bb e => by simp at e⟩
          (fun i H' _ hp => ⟨tOf (hp.1 a _ (by simp) hA), tOf (hp.1 b _ (by simp) hB)⟩) (fun i x Ha Hb hi hp hy => ?_) fun H5 hp => ?_
        · obtain ⟨T1, x1, y1, rfl, nT, rfl, hx1, hy1⟩ := hy
          dsimp only at hx1 hy1
          obtain ⟨kA, bs, hD, lb, hbs⟩ := hp
          rw [ivAt hi] at hy1
          cases hy1
          have kB : Kp [] Ha (upd Ha T1 (.tup [x1, .int (ys.getD i 0)])) := Kp.new nT
          have t1 := (tx x1 (List.mem_of_getElem? hx1)).sv (kA.trans kB).sv
          refine ⟨T1, _, rfl, tOf upd_same, rfl, _, _, rfl, _, _, rfl, rfl, rfl, x1, rfl, .int (ys.getD i 0), rfl, M, k', x1, ys.getD i 0, rfl, t1, fun bb Hc hb kC => ?_⟩
          have kAC := (kA.trans kB).trans kC
          refine ⟨_, kC D _ (by simp) (kB D _ (by simp) hD), by rw [List.length_map]; exact small (m := 1000) (by omega), kAC.mut nD, bs ++ [bb], by rw [upd_same, List.map_append]; rfl, by rw [List.length_append, lb]; rfl, fun j b' e => ?_⟩
          by_cases c : j < bs.length
          · rw [List.getElem?_append_left c] at e
            exact hbs j b' e
          · have hj := (List.getElem?_eq_some_iff.mp e).1
            rw [List.length_append] at hj
            have ej : j = bs.length := by simp at hj; omega
            subst ej
            rw [List.getElem?_append_right (Nat.le_refl _), Nat.sub_self] at e
            cases e
            rw [lb, hx1]
            exact hb.trans ⟨fun z => by rw [z], fun z => Option.some.inj z⟩
        · obtain ⟨kA, bs, hD, lb, hbs⟩ := hp
          refine ⟨D, bs, rfl, lOf hD, q _ _ (all_iff.trans ⟨fun h => ⟨a, rfl, ?_⟩, fun ⟨a', e1, e2⟩ b' hb' => ?_⟩) kA⟩
          · rw [hA]
            congr 2
            apply List.ext_getElem?
            intro j
            by_cases hj : j < ys.length
            · have e := List.getElem?_eq_getElem (l := bs) (show j < bs.length by omega)
              rw [(hbs j _ e).mp (h _ (List.getElem_mem _)), ivAt hj]
            · rw [List.getElem?_eq_none (by omega), List.getElem?_eq_none (by rw [List.length_map]; omega)]
          · cases e1
            rw [hA] at e2
            have exs : xs = ys.map V.int := HO.tup.inj (Option.some.inj e2)
            obtain ⟨j, hj, rfl⟩ := List.getElem_of_mem hb'
            refine (hbs j _ (List.getElem?_eq_getElem hj)).mpr ?_
            rw [exs, ivAt (by omega)]
      · rw [decide_eq_false (show ¬ V.int ((xs.length : Nat) : Int) = V.int ((((ys.map V.int).length : Nat)) : Int) from fun z => hln (by
          have z1 := V.int.inj z
          rw [List.length_map] at z1
          omega))]
        refine iteT (q false H ⟨fun z => (by cases z), fun ⟨a', e1, e2⟩ => ?_⟩ (Kp.refl H))
        cases e1
        rw [hA] at e2
        have exs : xs = ys.map V.int := HO.tup.inj (Option.some.inj e2)
        exact absurd (by rw [exs, List.length_map]) hln
    · rw [decide_eq_false hty]
      refine iteT (iteT (q false H ⟨fun z => (by cases z), fun ⟨a', e1, e2⟩ => ?_⟩ (Kp.refl H)))
      exact absurd (h1.mpr ⟨a', _, e1, e2⟩) hty
def spL2 : Sp := fun vs H Q _ => ∃ (M : List Addr) (k : Nat) (v : V) (b : Addr) (xs ys : List Int), vs = [v, .ref b] ∧ Th M H k v ∧ Pr2 H b xs ys ∧ xs.length ≤ 1000 ∧ ys.length ≤ 1000 ∧ ∀ bb H', (bb = true ↔ S2 H v xs ys) → Kp [] H H' → Q (.bl bb) H'
theorem ok_same2 (T : Txt K mg) {k : Nat} : FnOk P w K mg base CX0 (k + 3) T.law_same.f T.law_same.fd p_law_same spL2 := by
  have G_law_same : FnOk P w K mg base CX0 2 T.law_same.f T.law_same.fd p_law_same spL1 := ok_same1 T
  refine T.law_same.F.ok sc_law_same (fun vs H Q E h => ?_) (fun cdv A outer s H vs Q E hr h => ?_)
  · obtain ⟨M, k, v, b, xs, ys, rfl, _⟩ := h
    rfl
  · obtain ⟨M, kk, v, b, xs, ys, rfl, t, ⟨s, f, hB, hs, hf⟩, lx, ly, q⟩ := h
    replace hr := hr.mono (show 2 ≤ k + 2 by omega)
    have nd := sc_law_same.nd
    refine ⟨_, (pss_cons (ps_if (pt_val (pe_callB (isiK K) (by rfl) T.b_isinstance (by decide +kernel) (pa_cons (pv 1) (pa_cons (pe_bltn (v := .ty "tuple") (by rfl) T.b_tuple (by decide +kernel) rfl) pa_nil)))) (pss_cons (ps_if (PW.pt (pw_or (pt_not (pt_val (pe_callB (isiK K) (by rfl) T.b_isinstance (by decide +kernel) (pa_cons (pv 0) (pa_cons (pe_bltn (v := .ty "tuple") (by rfl) T.b_tuple (by decide +kernel) rfl) pa_nil))))) (pw_or1 (pt_cmpR op_ne (pe_callB (lenK K) (by rfl) T.b_len PySem.boot_len (pa_cons (pv 0) pa_nil)) (pe_callB (lenK K) (by rfl) T.b_len PySem.boot_len (pa_cons (pv 1) pa_nil)) (nomark _))))) (pss_one (ps_ret pe_bl)) pss_nil)
        (pss_one (ps_ret (pe_callB (allK K rfl) (by rfl) T.b_all (by decide +kernel) (pa_cons (pe_lc (own := [("_law_here", 2), ("_law_there", 3)]) rfl nd (pzTK K (by rfl) T.b_zip (pa_cons (pv 0) (pa_cons (pv 1) pa_nil))) (blkOk_by (own := [("_law_here", 2), ("_law_there", 3)]) (N := n_law_same) (sc := defScope s_law_same) (by decide +kernel)) (fun _ _ _ _ _ => (pgTK K (n := 2) (by rfl) (pgs_cons (pg_name (i := 2) nd rfl (Or.inl rfl)) (pgs_cons (pg_name (i := 3) nd rfl (Or.inl rfl)) pgs_nil)))) (fun _ _ _ _ _ => pts_nil) (fun _ _ _ _ _ => (pe_call G_law_same (hr.mono (by decide)) (by rfl) T.law_same.g T.law_same.F.kp T.law_same.b .nil pass0 (pa_cons (pv 2) (pa_cons (pv 3) pa_nil))))) pa_nil))))) pss_nil)
        (pss_cons (ps_if (PW.pt (pw_or (pt_val (pe_callB (isiTK K) (by rfl) T.b_isinstance (by decide +kernel) (pa_cons (pv 0) (pa_cons (pe_tup (pa_cons (pe_bltn (v := .ty "tuple") (by rfl) T.b_tuple (by decide +kernel) rfl) (pa_cons (pe_bltn (v := .ty "list") (by rfl) T.b_list (by decide +kernel) rfl) (pa_cons (pe_bltn (v := .ty "dict") (by rfl) T.b_dict (by decide +kernel) rfl) pa_nil)))) pa_nil)))) (pw_or1 (pt_cmpR op_ne (pe_callB (isiK K) (by rfl) T.b_isinstance (by decide +kernel) (pa_cons (pv 0) (pa_cons (pe_bltn (v := .ty "bool") (by rfl) T.b_bool (by decide +kernel) rfl) pa_nil))) (pe_callB (isiK K) (by rfl) T.b_isinstance (by decide +kernel) (pa_cons (pv 1) (pa_cons (pe_bltn (v := .ty "bool") (by rfl) T.b_bool (by decide +kernel) rfl) pa_nil))) (nomark _))))) (pss_one (ps_ret pe_bl)) pss_nil)
        (pss_one (ps_ret (pe_cmpR (eqTI M hr.units) (pv 0) (pv 1) (nomark _)))))), ?_⟩
    refine ⟨.ref b, rfl, .ref b, .ty "tuple", _, _, true, rfl, .ty "tuple", .base (.tup hB), kit_ty (by decide +kernel), true, rfl, iteT ?_⟩
    obtain ⟨Ty, ty, hT, h1, h2, h3⟩ := t.isi (K := K)
    obtain ⟨kt, _⟩ := kitS K hT
    refine ⟨v, rfl, v, .ty "tuple", _, _, decide (Ty = "tuple"), rfl, .ty "tuple", ty, kt, _, rfl, ?_⟩
    by_cases hty : Ty = "tuple"
    · rw [decide_eq_true hty]
      refine iteF ?_
      obtain ⟨a, zs, rfl, hA⟩ := h1.mp hty
      obtain ⟨k', rfl, tx⟩ := th_at t hA
      refine ⟨.ref a, rfl, a, _, rfl, .inr (tOf hA), .ref b, rfl, b, _, rfl, .inr (tOf hB), rfl, _, rfl, ?_⟩
      by_cases hln : zs.length = 2
      · rw [decide_eq_true (show V.int ((zs.length : Nat) : Int) = V.int ((([V.ref s, V.ref f].length : Nat)) : Int) by rw [hln]; rfl)]
        refine iteF ?_
        obtain ⟨z1, z2, rfl⟩ := two_of hln
        refine ⟨.ref a, rfl, .ref b, rfl, a, b, _, _, rfl, .inr ⟨tOf hA, tOf hB, fun D nD => ?_⟩⟩
        refine lc_it (walk_zipT (xs := [z1, z2]) (ys := [.ref s, .ref f]) (n := 2) rfl) (fun i H' => Kp [] H H' ∧ ∃ bs : List Bool, H' D = some (.lst (bs.map V.bl)) ∧ bs.length = i ∧ (∀ bb, bs[0]? = some bb → (bb = true ↔ S1 H z1 xs)) ∧ ∀ bb, bs[1]? = some bb → (bb = true ↔ S1 H z2 ys)) ⟨Kp.new nD, [], upd_same, rfl, fun bb e => by simp at e, fun bb e => by simp at e⟩
          (fun i H' _ hp => ⟨tOf (hp.1 a _ (by simp) hA), tOf (hp.1 b _ (by simp) hB)⟩) (fun i x Ha Hb hi hp hy => ?_) fun H5 hp => ?_
        · obtain ⟨T1, x1, y1, rfl, nT, rfl, hx1, hy1⟩ := hy
          dsimp only at hx1 hy1
          obtain ⟨kA, bs, hD, lb, hb0, hb1⟩ := hp
          have kB : Kp [] Ha (upd Ha T1 (.tup [x1, y1])) := Kp.new nT
          have svB : Sv M H (upd Ha T1 (.tup [x1, y1])) := (kA.trans kB).sv
          obtain ⟨c, zs', rfl, hc, lz⟩ : ∃ c zs', y1 = .ref c ∧ H c = some (.tup (zs'.map V.int)) ∧ zs'.length ≤ 1000 ∧ ((i = 0 ∧ x1 = z1 ∧ zs' = xs) ∨ (i = 1 ∧ x1 = z2 ∧ zs' = ys)) := by
            rcases (show i = 0 ∨ i = 1 by omega) with rfl | rfl
            · exact ⟨s, xs, (Option.some.inj hy1).symm, hs, lx, .inl ⟨rfl, (Option.some.inj hx1).symm, rfl⟩⟩
            · exact ⟨f, ys, (Option.some.inj hy1).symm, hf, ly, .inr ⟨rfl, (Option.some.inj hx1).symm, rfl⟩⟩
          have tx1 := tx x1 (List.mem_of_getElem? hx1)
          refine ⟨T1, _, rfl, tOf upd_same, rfl, _, _, rfl, _, _, rfl, rfl, rfl, x1, rfl, .ref c, rfl, M, k', x1, c, zs', rfl, tx1.sv svB, svB.2.1 _ _ hc, lz.1, fun bb Hc hb kC => ?_⟩
          have hb' : bb = true ↔ S1 H x1 zs' := hb.trans ⟨S1.back tx1 svB, S1.sv svB⟩
          have kAC := (kA.trans kB).trans kC
          refine ⟨_, kC D _ (by simp) (kB D _ (by simp) hD), by rw [List.length_map]; exact small (m := 1000) (by omega), kAC.mut nD, bs ++ [bb], by rw [upd_same, List.map_append]; rfl, by rw [List.length_append, lb]; rfl, fun b' e => ?_, fun b' e => ?_⟩
          · rcases lz.2 with ⟨rfl, rfl, rfl⟩ | ⟨rfl, rfl, rfl⟩
            · rw [List.length_eq_zero_iff.mp lb] at e
              cases e
              exact hb'
            · rw [List.getElem?_append_left (by omega)] at e
              exact hb0 b' e
          · rcases lz.2 with ⟨rfl, rfl, rfl⟩ | ⟨rfl, rfl, rfl⟩
            · rw [List.length_eq_zero_iff.mp lb] at e
              cases e
            · rw [List.getElem?_append_right (by omega), show 1 - bs.length = 0 by omega] at e
              cases e
              exact hb'
        · obtain ⟨kA, bs, hD, lb, hb0, hb1⟩ := hp
          obtain ⟨b0, b1, rfl⟩ : ∃ b0 b1, bs = [b0, b1] := by
            match bs, lb with
            | [b0, b1], _ => exact ⟨b0, b1, rfl⟩
          refine ⟨D, [b0, b1], rfl, lOf hD, q _ _ (all_iff.trans ⟨fun h => ⟨a, z1, z2, rfl, hA, (hb0 b0 rfl).mp (h b0 (by simp)), (hb1 b1 rfl).mp (h b1 (by simp))⟩, fun ⟨t', y1, y2, e1, e2, g1, g2⟩ b' hb' => ?_⟩) kA⟩
          cases e1
          rw [hA] at e2
          have e3 : [z1, z2] = [y1, y2] := HO.tup.inj (Option.some.inj e2)
          cases e3
          rcases List.mem_cons.mp hb' with e | e
          · rw [e]; exact (hb0 b0 rfl).mpr g1
          · rw [List.mem_singleton.mp e]; exact (hb1 b1 rfl).mpr g2
      · rw [decide_eq_false (show ¬ V.int ((zs.length : Nat) : Int) = V.int ((([V.ref s, V.ref f].length : Nat)) : Int) from fun z => hln (by
          have z1 := V.int.inj z
          have z2 : ([V.ref s, V.ref f].length : Nat) = 2 := rfl
          omega))]
        refine iteT (q false H ⟨fun z => (by cases z), fun ⟨t', y1, y2, e1, e2, _⟩ => ?_⟩ (Kp.refl H))
        cases e1
        rw [hA] at e2
        have exs : zs = [y1, y2] := HO.tup.inj (Option.some.inj e2)
        exact absurd (by rw [exs]; rfl) hln
    · rw [decide_eq_false hty]
      refine iteT (iteT (q false H ⟨fun z => (by cases z), fun ⟨t', y1, y2, e1, e2, _⟩ => ?_⟩ (Kp.refl H)))
      exact absurd (h1.mpr ⟨t', _, e1, e2⟩) hty
/-! ### what is told of a thing -/
def spJH (Ps : List Addr) : Sp := fun vs H Q _ => ∃ (M : List Addr) (k : Nat) (a b : Addr) (v : V) (xs ys : List Int), vs = [.ref a, .ref b, v] ∧ H a = some (.tup (xs.map V.int)) ∧ H b = some (.tup (ys.map V.int)) ∧ 0 < xs.length ∧ xs.length ≤ 100 ∧ 0 < ys.length ∧ ys.length ≤ 100 ∧ Th M H k v ∧ TbG Ps H ∧
  ∀ bb H', (bb = true ↔ S2 H v (jsum xs ys) (jfst xs ys)) → Kp Ps H H' → TbG Ps H' → Q (.bl bb) H'
theorem S2.back {M : List Addr} {H H' : Hp} {k : Nat} {v : V} {xs ys : List Int} (t : Th M H k v) (s : Sv M H H') (h : S2 H' v xs ys) : S2 H v xs ys := by
  obtain ⟨p, x1, x2, rfl, hp, g1, g2⟩ := h
  cases t with
  | lst hm e hz hx => rw [s.1 _ _ hm e] at hp; cases hp
  | tup e hz hx =>
    rw [s.2.1 _ _ e] at hp
    have e3 := HO.tup.inj (Option.some.inj hp)
    subst e3
    exact ⟨p, x1, x2, rfl, e, S1.back (hx x1 (by simp)) s g1, S1.back (hx x2 (by simp)) s g2⟩
  | dct hm e => rw [s.2.2 _ hm e] at hp; cases hp
theorem S2.sv {M : List Addr} {H H' : Hp} {v : V} {xs ys : List Int} (s : Sv M H H') (h : S2 H v xs ys) : S2 H' v xs ys := by
  obtain ⟨p, x1, x2, e, hp, g1, g2⟩ := h
  exact ⟨p, x1, x2, e, s.2.1 _ _ hp, S1.sv s g1, S1.sv s g2⟩
theorem ok_joined_holds (T : Txt K mg) (Ps : List Addr) (hJ : T.P_joined ∈ Ps) (BJ : TabB base mg T.c_joined T.P_joined) (hP : T.P_is_same ∈ Ps) (TB : TabB base mg T.c_is_same T.P_is_same) {k : Nat} : FnOk P w K mg base CX0 (k + 12) T.joined_holds.f T.joined_holds.fd p_joined_holds (spJH Ps) := by
  have G_is_same : FnOk P w K mg base CX0 11 T.is_same.f T.is_same.fd p_is_same (spI2 Ps) := ok_is_same2 T Ps hP TB
  have G_joined : FnOk P w K mg base CX0 8 T.joined.f T.joined.fd p_joined (spJ Ps) := ok_joined T Ps hJ BJ
  refine T.joined_holds.F.ok sc_joined_holds (fun vs H Q E h => ?_) (fun cdv A outer s H vs Q E hr h => ?_)
  · obtain ⟨M, k, a, b, v, xs, ys, rfl, _⟩ := h
    rfl
  · obtain ⟨M, kk, a, b, v, xs, ys, rfl, hA, hB, x0, x1, y0, y1, t, hG, q⟩ := h
    replace hr := hr.mono (show 11 ≤ k + 11 by omega)
    have nd := sc_joined_holds.nd
    refine ⟨_, (pss_one (ps_ret (pe_call G_is_same (hr.mono (by decide)) (by rfl) T.is_same.g T.is_same.F.kp T.is_same.b .nil pass0 (pa_cons (pv 2) (pa_cons (pe_call G_joined (hr.mono (by decide)) (by rfl) T.joined.g T.joined.F.kp T.joined.b .nil pass0 (pa_cons (pv 0) (pa_cons (pv 1) pa_nil))) pa_nil))))), ?_⟩
    have lJ := jsum_len xs ys
    have lF := jfst_len xs ys
    refine ⟨v, rfl, .ref a, rfl, .ref b, rfl, a, b, xs, ys, rfl, hA, hB, x0, by omega, y0, by omega, hG, fun t1 s1 f1 H1 et es ef k1 g1 => ?_⟩
    have sv1 : Sv M H H1 := hG.sv k1
    refine ⟨M, kk, v, t1, _, _, rfl, t.sv sv1, ⟨s1, f1, et, es, ef⟩, by omega, by omega, g1, fun bb H2 hb k2 g2 => ?_⟩
    exact q bb H2 (hb.trans ⟨S2.back t sv1, S2.sv sv1⟩) (k1.trans k2) g2
def spTd (Ps : List Addr) : Sp := fun vs H Q _ => ∃ (M : List Addr) (k : Nat) (a b : Addr) (v : V) (d : Addr) (xs ys : List Int), vs = [.ref a, .ref b, v, .ref d] ∧ H a = some (.tup (xs.map V.int)) ∧ H b = some (.tup (ys.map V.int)) ∧ 0 < xs.length ∧ xs.length ≤ 100 ∧ 0 < ys.length ∧ ys.length ≤ 100 ∧ Th M H k v ∧ Pr2 H d (jsum xs ys) (jfst xs ys) ∧ TbG Ps H ∧
  ∀ H', Kp Ps H H' → TbG Ps H' → Q (.bl true) H'
theorem ok_told (T : Txt K mg) (Ps : List Addr) (hJ : T.P_joined ∈ Ps) (BJ : TabB base mg T.c_joined T.P_joined) (hP : T.P_is_same ∈ Ps) (TB : TabB base mg T.c_is_same T.P_is_same) {k : Nat} : FnOk P w K mg base CX0 (k + 13) T.law_told.f T.law_told.fd p_law_told (spTd Ps) := by
  have G_joined_holds : FnOk P w K mg base CX0 12 T.joined_holds.f T.joined_holds.fd p_joined_holds (spJH Ps) := ok_joined_holds T Ps hJ BJ hP TB
  have G_law_same : FnOk P w K mg base CX0 3 T.law_same.f T.law_same.fd p_law_same spL2 := ok_same2 T
  refine T.law_told.F.ok sc_law_told (fun vs H Q E h => ?_) (fun cdv A outer s H vs Q E hr h => ?_)
  · obtain ⟨M, k, a, b, v, d, xs, ys, rfl, _⟩ := h
    rfl
  · obtain ⟨M, kk, a, b, v, d, xs, ys, rfl, hA, hB, x0, x1, y0, y1, t, hd, hG, q⟩ := h
    replace hr := hr.mono (show 12 ≤ k + 12 by omega)
    have nd := sc_law_told.nd
    refine ⟨_, (pss_cons (ps_set (i := 4) nd rfl (Or.inl rfl) (pe_call G_joined_holds (hr.mono (by decide)) (by rfl) T.joined_holds.g T.joined_holds.F.kp T.joined_holds.b .nil pass0 (pa_cons (pv 0) (pa_cons (pv 1) (pa_cons (pv 2) pa_nil)))))
        (pss_one (ps_ret (pe_and (pe_callB (isiK K) (by rfl) T.b_isinstance (by decide +kernel) (pa_cons (pv 4) (pa_cons (pe_bltn (v := .ty "bool") (by rfl) T.b_bool (by decide +kernel) rfl) pa_nil))) (pe_one (pe_cmpR op_eq (pv 4) (pe_call G_law_same (hr.mono (by decide)) (by rfl) T.law_same.g T.law_same.F.kp T.law_same.b .nil pass0 (pa_cons (pv 2) (pa_cons (pv 3) pa_nil))) (nomark _))))))), ?_⟩
    have lJ := jsum_len xs ys
    have lF := jfst_len xs ys
    refine ⟨.ref a, rfl, .ref b, rfl, v, rfl, M, kk, a, b, v, xs, ys, rfl, hA, hB, x0, x1, y0, y1, t, hG, fun b1 H1 hb1 k1 g1 => ?_⟩
    have sv1 : Sv M H H1 := hG.sv k1
    refine ⟨.bl b1, rfl, .bl b1, .ty "bool", _, _, true, rfl, .ty "bool", .base (.bl _), kit_ty (by decide +kernel), true, rfl, iteT ?_⟩
    obtain ⟨s1, f1, e1, e2, e3⟩ := hd
    refine ⟨.bl b1, rfl, v, rfl, .ref d, rfl, M, kk, v, d, _, _, rfl, t.sv sv1, ⟨s1, f1, sv1.2.1 _ _ e1, sv1.2.1 _ _ e2, sv1.2.1 _ _ e3⟩, by omega, by omega, fun b2 H2 hb2 k2 => ?_⟩
    have e : b1 = b2 := by
      have hh := hb1.trans ((⟨S2.sv sv1, S2.back t sv1⟩ : S2 H v _ _ ↔ S2 H1 v _ _).trans hb2.symm)
      cases b1 <;> cases b2 <;> simp_all
    subst e
    refine ⟨rfl, ?_⟩
    rw [decide_eq_true rfl]
    exact q H2 (k1.trans (k2.mono (by simp))) (g1.kp0 k2)
end
end K30

namespace K30
open PySem PySem.Spec PyProof.Rows L2 GenW BT
section
variable {P : Program} {w : World} {K : PySem.W.Frag} {mg : Str → Option Value} {base : Heap}
theorem pick {xs : List V} {r : Int} (h0 : 0 ≤ r) (h1 : r < (xs.length : Nat)) : ∃ v, atI xs r = some v ∧ v ∈ xs := by
  obtain ⟨n, rfl⟩ : ∃ n : Nat, r = n := ⟨r.toNat, by omega⟩
  have hn : n < xs.length := by omega
  exact ⟨xs[n], atI_nat (List.getElem?_eq_getElem hn), List.getElem_mem _⟩
theorem pw_le {a : Int} {n m : Nat} (h : a.natAbs < 10 ^ (40 + n)) (hm : n + 1 ≤ m) {b : Int} (hb : b.natAbs ≤ a.natAbs + 10 ^ 30) : b.natAbs < 10 ^ (40 + m) := by
  have h1 : 10 ^ (40 + n + 1) ≤ 10 ^ (40 + m) := Nat.pow_le_pow_right (by decide) (by omega)
  have h2 : 10 ^ (40 + n + 1) = 10 ^ (40 + n) * 10 := Nat.pow_succ ..
  have h3 : (10 : Nat) ^ 30 ≤ 10 ^ (40 + n) := Nat.pow_le_pow_right (by decide) (by omega)
  omega
theorem pw_c {b : Int} {m : Nat} (hb : b.natAbs < 10 ^ 40) : b.natAbs < 10 ^ (40 + m) := Nat.lt_of_lt_of_le hb (Nat.pow_le_pow_right (by decide) (by omega))
theorem nv_bd {M : List Addr} {H : Hp} {n : Nat} {x : V} (t : Th M H n x) (hb : NB x) : (nv x).natAbs < 10 ^ (40 + n) := by
  rcases hb with ⟨i, rfl⟩ | ⟨c, rfl⟩
  · cases t with
    | int i hi => exact hi
  · cases c
    · exact pw_c (by decide)
    · exact pw_c (by decide)
theorem log_n {i : Int} {n : Nat} (h : i.natAbs < 10 ^ (40 + n)) (hn : n ≤ 100) : i.natAbs.log2 < 1920 := by
  by_cases c : i.natAbs = 0
  · rw [c]; decide
  · have h1 : 10 ^ (40 + n) ≤ 10 ^ 140 := Nat.pow_le_pow_right (by decide) (by omega)
    have h2 : (10 : Nat) ^ 140 ≤ 2 ^ 1920 := by decide +kernel
    exact (Nat.log2_lt c).mpr (Nat.lt_of_lt_of_le h (Nat.le_trans h1 h2))
def spOdd : Sp := fun vs H Q _ => ∃ (M : List Addr) (n : Nat) (d c : Addr) (x : V), vs = [.ref d, x] ∧ Dl d c H ∧ d ∈ M ∧ c ∈ M ∧ Al M H ∧ Th M H n x ∧ n ≤ 90 ∧ ∀ v H', Th M H' (n + 1) v → Dl d c H' → Kp [d, c] H H' → Q v H'
theorem ok_odd (T : Txt K mg) {k : Nat} : FnOk P w K mg base CX0 (k + 2) T.law_odd.f T.law_odd.fd p_law_odd spOdd := by
  have G_law_draw : FnOk P w K mg base CX0 1 T.law_draw.f T.law_draw.fd p_law_draw spDraw := ok_draw T
  refine T.law_odd.F.ok sc_law_odd (fun vs H Q E h => ?_) (fun cdv A outer s H vs Q E hr h => ?_)
  · obtain ⟨M, n, d, c, x, rfl, _⟩ := h
    rfl
  · obtain ⟨M, n, d, c, x, rfl, hD, hd, hc, al, t, hn, q⟩ := h
    replace hr := hr.mono (show 1 ≤ k + 1 by omega)
    have nd := sc_law_odd.nd
    refine ⟨_, (pss_cons (ps_if (pt_not (pt_val (pe_callB (isiK K) (by rfl) T.b_isinstance (by decide +kernel) (pa_cons (pv 1) (pa_cons (pe_bltn (v := .ty "int") (by rfl) T.b_int (by decide +kernel) rfl) pa_nil))))) (pss_one (ps_ret (pe_ix (ixLK K) (pe_lst (pa_cons pe_int (pa_cons pe_non (pa_cons pe_str (pa_cons (pe_tup (pa_cons (pv 1) pa_nil)) (pa_cons (pe_lst (pa_cons (pv 1) pa_nil)) pa_nil)))))) (pe_call G_law_draw (hr.mono (by decide)) (by rfl) T.law_draw.g T.law_draw.F.kp T.law_draw.b .nil pass0 (pa_cons (pv 0) (pa_cons pe_int pa_nil))) (fun _ _ => rfl)))) pss_nil)
        (pss_cons (ps_set (i := 2) nd rfl (Or.inl rfl) (pe_lst (pa_cons (pe_op addB (pv 1) pe_int) (pa_cons (pe_op subB (pv 1) pe_int) (pa_cons (pe_op addB (pv 1) (pe_op op_pow pe_int pe_int)) (pa_cons (pe_op subC pe_int (pv 1)) (pa_cons pe_bl (pa_cons pe_bl (pa_cons pe_non (pa_cons (pe_tup (pa_cons (pv 1) pa_nil)) (pa_cons (pe_lst (pa_cons (pv 1) pa_nil)) pa_nil)))))))))))
        (pss_one (ps_ret (pe_ix (ixLK K) (pe_op op_cat (pv 2) (pe_lst (pa_cons (pe_callTy strB (by rfl) T.b_str (by decide +kernel) (pa_cons (pv 1) pa_nil)) (pa_cons pe_dnewK (pa_cons pe_int (pa_cons (pe_un un_neg pe_int) (pa_cons (pe_op op_pow pe_int pe_int) pa_nil))))))) (pe_call G_law_draw (hr.mono (by decide)) (by rfl) T.law_draw.g T.law_draw.F.kp T.law_draw.b .nil pass0 (pa_cons (pv 0) (pa_cons pe_int pa_nil))) (fun _ _ => rfl)))))), ?_⟩
    obtain ⟨Ty, ty, hT, h1, h2, h3⟩ := t.isi (K := K)
    obtain ⟨_, _, _, _, ki⟩ := kitS K hT
    refine ⟨x, rfl, x, .ty "int", _, _, _, rfl, .ty "int", ty, ki, _, rfl, ?_⟩
    by_cases hb : (decide (Ty = "int") || decide (Ty = "bool")) = true
    · rw [hb]
      refine iteF ?_
      have nb : NB x := by
        rw [Bool.or_eq_true, decide_eq_true_iff, decide_eq_true_iff] at hb
        rcases hb with e | e
        · exact .inl (h3.mp e)
        · exact .inr (h2.mp e)
      have bd := nv_bd t nb
      refine ⟨x, rfl, 1, rfl, nb, x, rfl, 1, rfl, nb, x, rfl, 10, 30, rfl, rfl, ⟨by decide, by decide, by decide⟩, _, rfl, nb, x, rfl, 0, rfl, nb, x, rfl, (show (1 : Nat) ≤ sizeLine by decide), fun p1 n1 => ?_⟩
      have k1 : Kp [] H (upd H p1 (.tup [x])) := Kp.new n1
      have e1 : upd H p1 (.tup [x]) p1 = some (.tup [x]) := upd_same
      generalize upd H p1 (.tup [x]) = H1 at k1 e1 ⊢
      refine ⟨x, rfl, (show (1 : Nat) ≤ sizeLine by decide), fun p2 n2 => ?_⟩
      have k2 : Kp [] H1 (upd H1 p2 (.lst [x])) := Kp.new n2
      have e2 : upd H1 p2 (.lst [x]) p2 = some (.lst [x]) := upd_same
      have m2 := (al.kp0 k1).ni n2
      generalize upd H1 p2 (.lst [x]) = H2 at k2 e2 ⊢
      refine ⟨(show (9 : Nat) ≤ sizeLine by decide), fun p3 n3 => ?_⟩
      obtain ⟨L1, hL1⟩ : ∃ L1 : List V, L1 = [.int (nv x + 1), .int (nv x - 1), .int (nv x + 10 ^ (30 : Int).toNat), .int (0 - nv x), .bl true, .bl false, .non, .ref p1, .ref p2] := ⟨_, rfl⟩
      have k3 : Kp [] H2 (upd H2 p3 (.lst L1)) := Kp.new n3
      have e3 : upd H2 p3 (.lst L1) p3 = some (.lst L1) := upd_same
      have n3' : H2 p3 = none := n3
      rw [hL1] at k3 e3
      dsimp only at k3 e3 ⊢
      generalize upd H2 p3 (.lst [.int (nv x + 1), .int (nv x - 1), .int (nv x + 10 ^ (30 : Int).toNat), .int (0 - nv x), .bl true, .bl false, .non, .ref p1, .ref p2]) = H3 at k3 e3 ⊢
      rw [← hL1] at e3
      refine ⟨.ref p3, rfl, x, rfl, x, rfl, ?_, fun zs => ?_⟩
      · rcases nb with ⟨i, rfl⟩ | ⟨cc, rfl⟩
        · exact .inl ⟨i, rfl, log_n bd (by omega)⟩
        · exact .inr ⟨cc, rfl⟩
      intro p4 n4
      have k4 : Kp [] H3 (upd H3 p4 (.dK [])) := Kp.new n4
      have e4 : upd H3 p4 (.dK []) p4 = some (.dK []) := upd_same
      have m4 := (((al.kp0 k1).kp0 k2).kp0 k3).ni n4
      generalize upd H3 p4 (.dK []) = H4 at k4 e4 ⊢
      refine ⟨1, rfl, 10, 39, rfl, rfl, ⟨by decide, by decide, by decide⟩, (show (5 : Nat) ≤ sizeLine by decide), fun p5 n5 => ?_⟩
      obtain ⟨L2, hL2⟩ : ∃ L2 : List V, L2 = [.str zs, .ref p4, .int 0, .int (-1), .int (10 ^ (39 : Int).toNat)] := ⟨_, rfl⟩
      have k5 : Kp [] H4 (upd H4 p5 (.lst L2)) := Kp.new n5
      have e5 : upd H4 p5 (.lst L2) p5 = some (.lst L2) := upd_same
      rw [hL2] at k5 e5
      generalize upd H4 p5 (.lst [.str zs, .ref p4, .int 0, .int (-1), .int (10 ^ (39 : Int).toNat)]) = H5 at k5 e5 ⊢
      rw [← hL2] at e5
      have k35 : Kp [] H3 H5 := k4.trans k5
      refine ⟨p3, p5, L1, L2, rfl, rfl, k35 _ _ (by simp) e3, e5, (by rw [hL1, hL2]; exact (show (14 : Nat) ≤ sizeLine by decide)), fun p6 n6 => ?_⟩
      have k6 : Kp [] H5 (upd H5 p6 (.lst (L1 ++ L2))) := Kp.new n6
      have e6 : upd H5 p6 (.lst (L1 ++ L2)) p6 = some (.lst (L1 ++ L2)) := upd_same
      generalize upd H5 p6 (.lst (L1 ++ L2)) = H6 at k6 e6 ⊢
      have k06 : Kp [] H H6 := ((k1.trans k2).trans (k3.trans k35)).trans k6
      have m6 : p6 ∉ [d, c] := hD.ni (((k1.trans k2).trans (k3.trans k35)).back n6)
      have D6 := hD.kp0 k06
      refine ⟨_, rfl, d, c, 14, rfl, D6, by decide, by decide, fun r H7 r0 r1 D7 k7 => ?_⟩
      have s7 : Sv M H6 H7 := D6.sv hd hc k7
      have s17 : Sv M H1 H7 := ((((k2.trans k3).trans k35).trans k6).sv).trans s7
      have s27 : Sv M H2 H7 := (((k3.trans k35).trans k6).sv).trans s7
      have s47 : Sv M H4 H7 := ((k5.trans k6).sv).trans s7
      have tx := t.sv ((k06.sv (M := M)).trans s7)
      have len : (L1 ++ L2).length = 14 := by rw [hL1, hL2]; rfl
      obtain ⟨v, hv, hm⟩ := pick (xs := L1 ++ L2) r0 (by rw [len]; exact r1)
      refine ⟨p6, L1 ++ L2, r, v, rfl, rfl, lOf (k7 _ _ m6 e6), hv, ?_⟩
      refine q v H7 ?_ D7 ((k06.mono (by simp)).trans k7)
      have one : ∀ y ∈ [x], Th M H7 n y := fun y hy => by rw [List.mem_singleton.mp hy]; exact tx
      rw [hL1, hL2] at hm
      simp only [List.cons_append, List.nil_append, List.mem_cons, List.not_mem_nil, or_false] at hm
      rcases hm with rfl | rfl | rfl | rfl | rfl | rfl | rfl | rfl | rfl | rfl | rfl | rfl | rfl | rfl
      · exact .int _ (pw_le bd (Nat.le_refl _) (by have := Int.natAbs_add_le (nv x) 1; have h1 : (1 : Nat) ≤ 10 ^ 30 := by decide
                                                   have : (1 : Int).natAbs = 1 := rfl
                                                   omega))
      · exact .int _ (pw_le bd (Nat.le_refl _) (by have h1 : (1 : Nat) ≤ 10 ^ 30 := by decide
                                                   omega))
      · exact .int _ (pw_le bd (Nat.le_refl _) (Int.natAbs_add_le (nv x) (10 ^ (30 : Int).toNat)))
      · exact .int _ (pw_le bd (Nat.le_refl _) (by omega))
      · exact .bl _
      · exact .bl _
      · exact .non
      · exact .tup (s17.2.1 _ _ e1) (by simp; omega) one
      · exact .lst m2 (s27.1 _ _ m2 e2) (by simp; omega) one
      · exact .str _
      · exact .dct m4 (s47.2.2 _ m4 e4)
      · exact .int _ (pw_c (by decide))
      · exact .int _ (pw_c (by decide))
      · exact .int _ (pw_c (by decide))
    · have hb' : (decide (Ty = "int") || decide (Ty = "bool")) = false := by simpa using hb
      rw [hb']
      refine iteT ?_
      refine ⟨x, rfl, (show (1 : Nat) ≤ sizeLine by decide), fun p1 n1 => ?_⟩
      have k1 : Kp [] H (upd H p1 (.tup [x])) := Kp.new n1
      have e1 : upd H p1 (.tup [x]) p1 = some (.tup [x]) := upd_same
      generalize upd H p1 (.tup [x]) = H1 at k1 e1 ⊢
      refine ⟨x, rfl, (show (1 : Nat) ≤ sizeLine by decide), fun p2 n2 => ?_⟩
      have k2 : Kp [] H1 (upd H1 p2 (.lst [x])) := Kp.new n2
      have e2 : upd H1 p2 (.lst [x]) p2 = some (.lst [x]) := upd_same
      have m2 := (al.kp0 k1).ni n2
      generalize upd H1 p2 (.lst [x]) = H2 at k2 e2 ⊢
      refine ⟨(show (5 : Nat) ≤ sizeLine by decide), fun p3 n3 => ?_⟩
      obtain ⟨L1, hL1⟩ : ∃ L1 : List V, L1 = [.int 0, .non, .str (Str.ofString "0"), .ref p1, .ref p2] := ⟨_, rfl⟩
      have k3 : Kp [] H2 (upd H2 p3 (.lst L1)) := Kp.new n3
      have e3 : upd H2 p3 (.lst L1) p3 = some (.lst L1) := upd_same
      have n3' : H2 p3 = none := n3
      rw [hL1] at k3 e3
      dsimp only at k3 e3 ⊢
      generalize upd H2 p3 (.lst [.int 0, .non, .str (Str.ofString "0"), .ref p1, .ref p2]) = H3 at k3 e3 ⊢
      rw [← hL1] at e3
      have k03 : Kp [] H H3 := (k1.trans k2).trans k3
      have m3 : p3 ∉ [d, c] := hD.ni ((k1.trans k2).back n3')
      have D3 := hD.kp0 k03
      refine ⟨_, rfl, d, c, 5, rfl, D3, by decide, by decide, fun r H7 r0 r1 D7 k7 => ?_⟩
      have s7 : Sv M H3 H7 := D3.sv hd hc k7
      have s17 : Sv M H1 H7 := ((k2.trans k3).sv).trans s7
      have s27 : Sv M H2 H7 := (k3.sv).trans s7
      have tx := t.sv ((k03.sv (M := M)).trans s7)
      have len : L1.length = 5 := by rw [hL1]; rfl
      obtain ⟨v, hv, hm⟩ := pick (xs := L1) r0 (by rw [len]; exact r1)
      refine ⟨p3, L1, r, v, rfl, rfl, lOf (k7 _ _ m3 e3), hv, ?_⟩
      refine q v H7 ?_ D7 ((k03.mono (by simp)).trans k7)
      have one : ∀ y ∈ [x], Th M H7 n y := fun y hy => by rw [List.mem_singleton.mp hy]; exact tx
      rw [hL1] at hm
      simp only [List.mem_cons, List.not_mem_nil, or_false] at hm
      rcases hm with rfl | rfl | rfl | rfl | rfl
      · exact .int _ (pw_c (by decide))
      · exact .non
      · exact .str _
      · exact .tup (s17.2.1 _ _ e1) (by simp; omega) one
      · exact .lst m2 (s27.1 _ _ m2 e2) (by simp; omega) one
end
end K30

namespace K30
open PySem PySem.Spec PyProof.Rows L2 GenW BT
section
variable {P : Program} {w : World} {K : PySem.W.Frag} {mg : Str → Option Value} {base : Heap}
theorem cut_mem {xs : List V} {lo hi : Option Int} {y : V} (h : y ∈ cutV xs lo hi) : y ∈ xs := List.mem_of_mem_drop (List.mem_of_mem_take h)
theorem cut_two {xs : List V} {a b : Nat} : (cutV xs (some (a : Int)) (some (b : Int))).length ≤ b - a := by
  unfold cutV
  rw [show HT.sIx xs.length 0 (some (a : Int)) = min a xs.length from HT.sIx_nat xs.length _ a, show HT.sIx xs.length xs.length (some (b : Int)) = min b xs.length from HT.sIx_nat xs.length _ b, List.length_take, List.length_drop]
  omega
theorem tupd {M : List Addr} {H : Hp} {n : Nat} {a : Addr} {xs : List V} (t : Th M H n (.ref a)) (e : H a = some (.tup xs)) : ∃ m, n = m + 1 ∧ xs.length ≤ 1000 + m ∧ ∀ x ∈ xs, Th M H m x := by
  cases t with
  | lst hm h hz hx => rw [e] at h; cases h
  | tup h hz hx => rw [e] at h; cases h; exact ⟨_, rfl, hz, hx⟩
  | dct hm h => rw [e] at h; cases h
theorem le_sl {a : Nat} (h : a ≤ 4000) : a ≤ sizeLine := Nat.le_trans h (show (4000 : Nat) ≤ sizeLine by decide)
theorem len_rev2 {xs : List V} {a b : Nat} : (cutV xs (some (a : Int)) (some (b : Int))).reverse.length ≤ b - a := by rw [List.length_reverse]; exact cut_two
def spPB : Sp := fun vs H Q _ => ∃ (M : List Addr) (n : Nat) (d c : Addr) (x : V), vs = [.ref d, x] ∧ Dl d c H ∧ d ∈ M ∧ c ∈ M ∧ Al M H ∧ Th M H n x ∧ n ≤ 90 ∧ ∀ v H', Th M H' (n + 1) v → Dl d c H' → Kp [d, c] H H' → Q v H'
theorem ok_part_bent (T : Txt K mg) {k : Nat} : FnOk P w K mg base CX0 (k + 3) T.law_part_bent.f T.law_part_bent.fd p_law_part_bent spPB := by
  have G_law_draw : FnOk P w K mg base CX0 1 T.law_draw.f T.law_draw.fd p_law_draw spDraw := ok_draw T
  have G_law_odd : FnOk P w K mg base CX0 2 T.law_odd.f T.law_odd.fd p_law_odd spOdd := ok_odd T
  refine T.law_part_bent.F.ok sc_law_part_bent (fun vs H Q E h => ?_) (fun cdv A outer s H vs Q E hr h => ?_)
  · obtain ⟨M, n, d, c, x, rfl, _⟩ := h
    rfl
  · obtain ⟨M, n, d, c, x, rfl, hD, hd, hc, al, t, hn, q⟩ := h
    replace hr := hr.mono (show 2 ≤ k + 2 by omega)
    have nd := sc_law_part_bent.nd
    refine ⟨_, (pss_cons (ps_set (i := 2) nd rfl (Or.inl rfl) (pe_call G_law_draw (hr.mono (by decide)) (by rfl) T.law_draw.g T.law_draw.F.kp T.law_draw.b .nil pass0 (pa_cons (pv 0) (pa_cons pe_int pa_nil))))
        (pss_cons (ps_if (PW.pt (pw_or (pt_not (pt_val (pe_callB (isiK K) (by rfl) T.b_isinstance (by decide +kernel) (pa_cons (pv 1) (pa_cons (pe_bltn (v := .ty "tuple") (by rfl) T.b_tuple (by decide +kernel) rfl) pa_nil))))) (pw_or1 (pt_cmpR (eqT0 hr.units) (pv 1) (pe_tup pa_nil) (nomark _))))) (pss_one (ps_ret (pe_ix (ixLK K) (pe_lst (pa_cons pe_non (pa_cons (pe_tup pa_nil) (pa_cons (pe_tup (pa_cons pe_int pa_nil)) (pa_cons pe_int pa_nil))))) (pe_call G_law_draw (hr.mono (by decide)) (by rfl) T.law_draw.g T.law_draw.F.kp T.law_draw.b .nil pass0 (pa_cons (pv 0) (pa_cons pe_int pa_nil))) (fun _ _ => rfl)))) pss_nil)
        (pss_cons (ps_set (i := 3) nd rfl (Or.inl rfl) (pe_call G_law_draw (hr.mono (by decide)) (by rfl) T.law_draw.g T.law_draw.F.kp T.law_draw.b .nil pass0 (pa_cons (pv 0) (pa_cons (pe_callB (lenK K) (by rfl) T.b_len PySem.boot_len (pa_cons (pv 1) pa_nil)) pa_nil))))
        (pss_cons (ps_if (pt_cmpR op_lt (pv 2) pe_int (nomark _)) (pss_one (ps_ret (pe_op (catAK K) (pe_op (catAK K) (pe_slice (slAK K) (pv 1) po_none (po_some (pv 3))) (pe_tup (pa_cons (pe_call G_law_odd (hr.mono (by decide)) (by rfl) T.law_odd.g T.law_odd.F.kp T.law_odd.b .nil pass0 (pa_cons (pv 0) (pa_cons (pe_ix (ixTK K) (pv 1) (pv 3) (fun _ _ => rfl)) pa_nil))) pa_nil))) (pe_slice (slAK K) (pv 1) (po_some (pe_op op_add (pv 3) pe_int)) po_none)))) pss_nil)
        (pss_cons (ps_if (pt_cmpR op_eq (pv 2) pe_int (nomark _)) (pss_one (ps_ret (pe_op (catAK K) (pe_slice (slAK K) (pv 1) po_none (po_some (pv 3))) (pe_slice (slAK K) (pv 1) (po_some (pe_op op_add (pv 3) pe_int)) po_none)))) pss_nil)
        (pss_cons (ps_if (pt_cmpR op_eq (pv 2) pe_int (nomark _)) (pss_one (ps_ret (pe_op (catAK K) (pe_op (catAK K) (pe_slice (slAK K) (pv 1) po_none (po_some (pv 3))) (pe_slice (slAK K) (pv 1) (po_some (pv 3)) (po_some (pe_op op_add (pv 3) pe_int)))) (pe_slice (slAK K) (pv 1) (po_some (pv 3)) po_none)))) pss_nil)
        (pss_cons (ps_if (pt_cmpR op_eq (pv 2) pe_int (nomark _)) (pss_one (ps_ret (pe_op (catAK K) (pe_op (catAK K) (pe_slice (slAK K) (pv 1) po_none (po_some (pv 3))) (pe_revT K (pe_slice (slAK K) (pv 1) (po_some (pv 3)) (po_some (pe_op op_add (pv 3) pe_int))))) (pe_slice (slAK K) (pv 1) (po_some (pe_op op_add (pv 3) pe_int)) po_none)))) pss_nil)
        (pss_one (ps_ret (pe_callTy (lisK K) (by rfl) T.b_list (by decide +kernel) (pa_cons (pv 1) pa_nil))))))))))), ?_⟩
    refine ⟨_, rfl, d, c, 8, rfl, hD, by decide, by decide, fun r H1 r0 r1 D1 k1 => ?_⟩
    have s1 : Sv M H H1 := hD.sv hd hc k1
    have t1 := t.sv s1
    have al1 := al.kpD D1 k1
    obtain ⟨Ty, ty, hT, h1, h2, h3⟩ := t1.isi (K := K)
    obtain ⟨ki, _, _, _, _⟩ := kitS K hT
    have non : ∀ H1, Dl d c H1 → Kp [d, c] H H1 → Al M H1 → tOp (rIxL K) (tLst (tCons (tC V.non) (tCons (tTup tNil) (tCons (tTup (tCons (tC (V.int 0)) tNil)) (tCons (tC (V.int 7)) tNil))))) (tCall spDraw [] E0 (tCons (tVar 0) (tCons (tC (V.int 4)) tNil))) (List.set (L2.start n_law_part_bent [V.ref d, x]) 2 (some (V.int r))) H1 Q := by
      intro H1 D1 k1 al1
      refine ⟨(show (0 : Nat) ≤ sizeLine by decide), fun p1 n1 => ?_⟩
      have j1 : Kp [] H1 (upd H1 p1 (.tup [])) := Kp.new n1
      have e1 : upd H1 p1 (.tup []) p1 = some (.tup []) := upd_same
      generalize upd H1 p1 (.tup []) = H2 at j1 e1 ⊢
      refine ⟨(show (1 : Nat) ≤ sizeLine by decide), fun p2 n2 => ?_⟩
      have j2 : Kp [] H2 (upd H2 p2 (.tup [.int 0])) := Kp.new n2
      have e2 : upd H2 p2 (.tup [.int 0]) p2 = some (.tup [.int 0]) := upd_same
      generalize upd H2 p2 (.tup [.int 0]) = H3 at j2 e2 ⊢
      refine ⟨(show (4 : Nat) ≤ sizeLine by decide), fun p3 n3 => ?_⟩
      have n3' : H3 p3 = none := n3
      have j3 : Kp [] H3 (upd H3 p3 (.lst [.non, .ref p1, .ref p2, .int 7])) := Kp.new n3
      have e3 : upd H3 p3 (.lst [.non, .ref p1, .ref p2, .int 7]) p3 = some (.lst [.non, .ref p1, .ref p2, .int 7]) := upd_same
      dsimp only
      generalize upd H3 p3 (.lst [.non, .ref p1, .ref p2, .int 7]) = H4 at j3 e3 ⊢
      have j04 : Kp [] H1 H4 := (j1.trans j2).trans j3
      have D4 := D1.kp0 j04
      have m3 : p3 ∉ [d, c] := D1.ni ((j1.trans j2).back n3')
      refine ⟨_, rfl, d, c, 4, rfl, D4, by decide, by decide, fun r H7 r0 r1 D7 k7 => ?_⟩
      have s7 : Sv M H4 H7 := D4.sv hd hc k7
      obtain ⟨v, hv, hm⟩ := pick (xs := [.non, .ref p1, .ref p2, .int 7]) r0 r1
      refine ⟨p3, _, r, v, rfl, rfl, lOf (k7 _ _ m3 e3), hv, ?_⟩
      refine q v H7 ?_ D7 ((k1.trans (j04.mono (by simp))).trans k7)
      simp only [List.mem_cons, List.not_mem_nil, or_false] at hm
      rcases hm with rfl | rfl | rfl | rfl
      · exact .non
      · exact .tup (((j2.trans j3).sv.trans s7).2.1 _ _ e1) (by simp) (fun y hy => by simp at hy)
      · exact .tup ((j3.sv.trans s7).2.1 _ _ e2) (by simp; omega) (fun y hy => by rw [List.mem_singleton.mp hy]; exact .int _ (pw_c (by decide)))
      · exact .int _ (pw_c (by decide))
    refine ⟨x, rfl, x, .ty "tuple", _, _, _, rfl, .ty "tuple", ty, ki, _, rfl, ?_⟩
    by_cases hb : Ty = "tuple"
    · rw [decide_eq_true hb]
      obtain ⟨a, xs, rfl, ea⟩ := h1.mp hb
      refine iteF ?_
      refine ⟨.ref a, rfl, (show (0 : Nat) ≤ sizeLine by decide), fun p0 n0 => ?_⟩
      have j1 : Kp [] H1 (upd H1 p0 (.tup [])) := Kp.new n0
      have e0 : upd H1 p0 (.tup []) p0 = some (.tup []) := upd_same
      generalize upd H1 p0 (.tup []) = H2 at j1 e0 ⊢
      have ea2 := j1 a _ (by simp) ea
      refine ⟨a, p0, xs, rfl, rfl, ea2, e0, _, rfl, ?_⟩
      have k2 : Kp [d, c] H H2 := k1.trans (j1.mono (by simp))
      have D2 := D1.kp0 j1
      have al2 := al1.kp0 j1
      refine ite2 (fun he => non H2 D2 k2 al2) fun he => ?_
      obtain ⟨m, rfl, lx, hx⟩ := tupd t1 ea
      have l0 : 0 < xs.length := by
        cases xs with
        | nil => exact absurd rfl he
        | cons y ys => simp
      refine ⟨_, rfl, _, rfl, a, xs, rfl, .inr (tOf ea2), d, c, _, rfl, D2, by omega, by omega, fun at_ H3 a0 a1 D3 k3 => ?_⟩
      obtain ⟨t, rfl⟩ : ∃ t : Nat, at_ = t := ⟨at_.toNat, by omega⟩
      have ea3 := tupD D2 k3 ea2
      have s13 : Sv M H1 H3 := (j1.sv (M := M)).trans (D2.sv hd hc k3)
      have hx3 : ∀ y ∈ xs, Th M H3 m y := fun y hy => (hx y hy).sv s13
      have k03 : Kp [d, c] H H3 := k2.trans k3
      have al3 := al2.kpD D3 k3
      have fin : ∀ pD H' zs, H' pD = some (.tup zs) → zs.length ≤ 1000 + (m + 1) → (∀ z ∈ zs, z ∈ xs) → Kp [] H3 H' → Q (.ref pD) H' := fun pD H' zs e l h k => q _ _ (.tup e l fun z hz => ((hx3 z (h z hz)).sv k.sv).mono (by omega)) (D3.kp0 k) (k03.trans (k.mono (by simp)))
      refine ⟨.int r, rfl, _, _, rfl, rfl, _, rfl, ite2 (fun h4 => ?_) fun h4 => ?_⟩
      · refine ⟨.ref a, rfl, .int t, rfl, t, rfl, slA_any ea3 fun pA H4 eA k4 => ?_⟩
        rw [show cutV xs none (some (t : Int)) = xs.take t from cut_to _ t] at eA
        have D4 := D3.kp0 k4
        obtain ⟨v, hv, hm⟩ := pick (xs := xs) a0 a1
        refine ⟨_, rfl, .ref a, rfl, .int t, rfl, a, xs, t, v, rfl, rfl, tOf (k4 a _ (by simp) ea3), hv, M, m, d, c, v, rfl, D4, hd, hc, al3.kp0 k4, (hx3 v hm).sv k4.sv, by omega, fun z H5 tz D5 k5 => ?_⟩
        have s35 : Sv M H3 H5 := (k4.sv (M := M)).trans (D4.sv hd hc k5)
        refine ⟨(show (1 : Nat) ≤ sizeLine by decide), fun pT nT => ?_⟩
        have k6 : Kp [] H5 (upd H5 pT (.tup [z])) := Kp.new nT
        refine catA_any (k6 pA _ (by simp) (tupD D4 k5 eA)) upd_same (by rw [List.length_take]; exact le_sl (by simp; omega)) fun pB H6 eB k7 => ?_
        have k67 := k6.trans k7
        refine ⟨.ref a, rfl, .int t, rfl, _, 1, rfl, rfl, _, rfl, ?_⟩
        dsimp only [tNoPart]
        refine slA_any ((s35.trans k67.sv).2.1 _ _ ea3) fun pC H7 eC k8 => ?_
        rw [show cutV xs (some ((t : Int) + 1)) none = xs.drop (t + 1) from cut_drop _ (t + 1)] at eC
        refine catA_any (k8 pB _ (by simp) eB) eC (by rw [List.length_append, List.length_take, List.length_drop]; exact le_sl (by simp; omega)) fun pD H8 eD k9 => ?_
        have k59 : Kp [] H5 H8 := (k67.trans k8).trans k9
        refine q _ _ (.tup eD (by simp only [List.length_append, List.length_take, List.length_drop, List.length_singleton]; omega) fun y hy => ?_) (D5.kp0 k59) (((k03.trans (k4.mono (by simp))).trans k5).trans (k59.mono (by simp)))
        rcases List.mem_append.mp hy with hy | hy
        · rcases List.mem_append.mp hy with hy | hy
          · exact ((hx3 y (List.mem_of_mem_take hy)).sv (s35.trans k59.sv)).mono (by omega)
          · rw [List.mem_singleton.mp hy]
            exact tz.sv k59.sv
        · exact ((hx3 y (List.mem_of_mem_drop hy)).sv (s35.trans k59.sv)).mono (by omega)
      refine ⟨.int r, rfl, rfl, _, rfl, ite2 (fun h5 => ?_) fun h5 => ?_⟩
      · refine ⟨.ref a, rfl, .int t, rfl, t, rfl, slA_any ea3 fun pA H4 eA k4 => ?_⟩
        rw [show cutV xs none (some (t : Int)) = xs.take t from cut_to _ t] at eA
        refine ⟨.ref a, rfl, .int t, rfl, _, 1, rfl, rfl, _, rfl, ?_⟩
        dsimp only [tNoPart]
        refine slA_any (k4 a _ (by simp) ea3) fun pC H5 eC k5 => ?_
        rw [show cutV xs (some ((t : Int) + 1)) none = xs.drop (t + 1) from cut_drop _ (t + 1)] at eC
        refine catA_any (k5 pA _ (by simp) eA) eC (by rw [List.length_take, List.length_drop]; exact le_sl (by omega)) fun pD H6 eD k6 => ?_
        refine fin pD H6 _ eD (by rw [List.length_append, List.length_take, List.length_drop]; omega) (fun y hy => ?_) ((k4.trans k5).trans k6)
        rcases List.mem_append.mp hy with hy | hy
        · exact List.mem_of_mem_take hy
        · exact List.mem_of_mem_drop hy
      refine ⟨.int r, rfl, rfl, _, rfl, ite2 (fun h6 => ?_) fun h6 => ?_⟩
      · refine ⟨.ref a, rfl, .int t, rfl, t, rfl, slA_any ea3 fun pA H4 eA k4 => ?_⟩
        rw [show cutV xs none (some (t : Int)) = xs.take t from cut_to _ t] at eA
        refine ⟨.ref a, rfl, .int t, rfl, _, rfl, .int t, rfl, _, 1, rfl, rfl, _, rfl, slA_any (k4 a _ (by simp) ea3) fun pC H5 eC k5 => ?_⟩
        have c2 : (cutV xs (some (t : Int)) (some ((t : Int) + 1))).length ≤ t + 1 - t := cut_two (b := t + 1)
        refine catA_any (k5 pA _ (by simp) eA) eC (by rw [List.length_take]; exact le_sl (by omega)) fun pB H6 eB k6 => ?_
        refine ⟨.ref a, rfl, .int t, rfl, _, rfl, ?_⟩
        dsimp only [tNoPart]
        refine slA_any (((k4.trans k5).trans k6) a _ (by simp) ea3) fun pE H7 eE k7 => ?_
        rw [show cutV xs (some (t : Int)) none = xs.drop t from cut_drop _ t] at eE
        refine catA_any (k7 pB _ (by simp) eB) eE (by rw [List.length_append, List.length_take, List.length_drop]; exact le_sl (by omega)) fun pD H8 eD k8 => ?_
        refine fin pD H8 _ eD (by rw [List.length_append, List.length_append, List.length_take, List.length_drop]; omega) (fun y hy => ?_) ((((k4.trans k5).trans k6).trans k7).trans k8)
        rcases List.mem_append.mp hy with hy | hy
        · rcases List.mem_append.mp hy with hy | hy
          · exact List.mem_of_mem_take hy
          · exact cut_mem hy
        · exact List.mem_of_mem_drop hy
      refine ⟨.int r, rfl, rfl, _, rfl, ite2 (fun h7 => ?_) fun h7 => ?_⟩
      · refine ⟨.ref a, rfl, .int t, rfl, t, rfl, slA_any ea3 fun pA H4 eA k4 => ?_⟩
        rw [show cutV xs none (some (t : Int)) = xs.take t from cut_to _ t] at eA
        refine ⟨.ref a, rfl, .int t, rfl, _, rfl, .int t, rfl, _, 2, rfl, rfl, _, rfl, slA_any (k4 a _ (by simp) ea3) fun pC H5 eC k5 => ?_⟩
        refine ⟨pC, _, rfl, tOf eC, fun pR nR => ?_⟩
        have kR : Kp [] H5 (upd H5 pR (.tup (cutV xs (some (t : Int)) (some ((t : Int) + 2))).reverse)) := Kp.new nR
        have c2 : (cutV xs (some (t : Int)) (some ((t : Int) + 2))).reverse.length ≤ t + 2 - t := len_rev2 (b := t + 2)
        refine catA_any (kR pA _ (by simp) (k5 pA _ (by simp) eA)) upd_same (by rw [List.length_take]; exact le_sl (by omega)) fun pB H6 eB k6 => ?_
        have k46 := ((k4.trans k5).trans kR).trans k6
        refine ⟨.ref a, rfl, .int t, rfl, _, 2, rfl, rfl, _, rfl, ?_⟩
        dsimp only [tNoPart]
        refine slA_any (k46 a _ (by simp) ea3) fun pE H7 eE k7 => ?_
        rw [show cutV xs (some ((t : Int) + 2)) none = xs.drop (t + 2) from cut_drop _ (t + 2)] at eE
        refine catA_any (k7 pB _ (by simp) eB) eE (by rw [List.length_append, List.length_take, List.length_drop]; exact le_sl (by omega)) fun pD H8 eD k8 => ?_
        refine fin pD H8 _ eD (by rw [List.length_append, List.length_append, List.length_take, List.length_drop]; omega) (fun y hy => ?_) ((k46.trans k7).trans k8)
        rcases List.mem_append.mp hy with hy | hy
        · rcases List.mem_append.mp hy with hy | hy
          · exact List.mem_of_mem_take hy
          · exact cut_mem (List.mem_reverse.mp hy)
        · exact List.mem_of_mem_drop hy
      refine ⟨.ref a, rfl, a, xs, rfl, .inr (tOf ea3), fun l nl => ?_⟩
      have kl : Kp [] H3 (upd H3 l (.lst xs)) := Kp.new nl
      exact q _ _ (.lst (al3.ni nl) upd_same (by omega) fun z hz => ((hx3 z hz).sv kl.sv).mono (by omega)) (D3.kp0 kl) (k03.trans (kl.mono (by simp)))
    · rw [decide_eq_false hb]
      exact non H1 D1 k1 al1
end
end K30

namespace K30
open PySem PySem.Spec PyProof.Rows L2 GenW BT
section
variable {P : Program} {w : World} {K : PySem.W.Frag} {mg : Str → Option Value} {base : Heap}
theorem ok_bent (T : Txt K mg) {k : Nat} : FnOk P w K mg base CX0 (k + 4) T.law_bent.f T.law_bent.fd p_law_bent spPB := by
  have G_law_draw : FnOk P w K mg base CX0 1 T.law_draw.f T.law_draw.fd p_law_draw spDraw := ok_draw T
  have G_law_part_bent : FnOk P w K mg base CX0 3 T.law_part_bent.f T.law_part_bent.fd p_law_part_bent spPB := ok_part_bent T
  refine T.law_bent.F.ok sc_law_bent (fun vs H Q E h => ?_) (fun cdv A outer s H vs Q E hr h => ?_)
  · obtain ⟨M, n, d, c, x, rfl, _⟩ := h
    rfl
  · obtain ⟨M, n, d, c, x, rfl, hD, hd, hc, al, t, hn, q⟩ := h
    replace hr := hr.mono (show 3 ≤ k + 3 by omega)
    have nd := sc_law_bent.nd
    refine ⟨_, (pss_cons (ps_set (i := 2) nd rfl (Or.inl rfl) (pe_call G_law_draw (hr.mono (by decide)) (by rfl) T.law_draw.g T.law_draw.F.kp T.law_draw.b .nil pass0 (pa_cons (pv 0) (pa_cons pe_int pa_nil))))
        (pss_cons (ps_if (PW.pt (pw_or (pt_not (pt_val (pe_callB (isiK K) (by rfl) T.b_isinstance (by decide +kernel) (pa_cons (pv 1) (pa_cons (pe_bltn (v := .ty "tuple") (by rfl) T.b_tuple (by decide +kernel) rfl) pa_nil))))) (pw_or (pt_cmpR op_ne (pe_callB (lenK K) (by rfl) T.b_len PySem.boot_len (pa_cons (pv 1) pa_nil)) pe_int (nomark _)) (pw_or1 (pt_cmpR op_eq (pv 2) pe_int (nomark _)))))) (pss_one (ps_ret (pe_ix (ixLK K) (pe_lst (pa_cons (pv 1) (pa_cons (pe_lst (pa_cons (pv 1) pa_nil)) (pa_cons (pe_tup (pa_cons (pv 1) (pa_cons (pv 1) pa_nil))) (pa_cons pe_non pa_nil))))) (pe_call G_law_draw (hr.mono (by decide)) (by rfl) T.law_draw.g T.law_draw.F.kp T.law_draw.b .nil pass0 (pa_cons (pv 0) (pa_cons pe_int pa_nil))) (fun _ _ => rfl)))) pss_nil)
        (pss_cons (ps_if (pt_cmpR op_eq (pv 2) pe_int (nomark _)) (pss_one (ps_ret (pe_ix (ixLK K) (pe_lst (pa_cons (pe_revT K (pv 1)) (pa_cons (pe_slice (slAK K) (pv 1) po_none (po_some pe_int)) (pa_cons (pe_op (catAK K) (pv 1) (pe_slice (slAK K) (pv 1) po_none (po_some pe_int))) (pa_cons (pe_op (repAK K) (pe_slice (slAK K) (pv 1) po_none (po_some pe_int)) pe_int) pa_nil))))) (pe_call G_law_draw (hr.mono (by decide)) (by rfl) T.law_draw.g T.law_draw.F.kp T.law_draw.b .nil pass0 (pa_cons (pv 0) (pa_cons pe_int pa_nil))) (fun _ _ => rfl)))) pss_nil)
        (pss_cons (ps_set (i := 3) nd rfl (Or.inl rfl) (pe_call G_law_draw (hr.mono (by decide)) (by rfl) T.law_draw.g T.law_draw.F.kp T.law_draw.b .nil pass0 (pa_cons (pv 0) (pa_cons pe_int pa_nil))))
        (pss_one (ps_ret (pe_op (catAK K) (pe_op (catAK K) (pe_slice (slAK K) (pv 1) po_none (po_some (pv 3))) (pe_tup (pa_cons (pe_call G_law_part_bent (hr.mono (by decide)) (by rfl) T.law_part_bent.g T.law_part_bent.F.kp T.law_part_bent.b .nil pass0 (pa_cons (pv 0) (pa_cons (pe_ix (ixTK K) (pv 1) (pv 3) (fun _ _ => rfl)) pa_nil))) pa_nil))) (pe_slice (slAK K) (pv 1) (po_some (pe_op op_add (pv 3) pe_int)) po_none)))))))), ?_⟩
    refine ⟨_, rfl, d, c, 10, rfl, hD, by decide, by decide, fun r H1 r0 r1 D1 k1 => ?_⟩
    have s1 : Sv M H H1 := hD.sv hd hc k1
    have t1 := t.sv s1
    have al1 := al.kpD D1 k1
    obtain ⟨Ty, ty, hT, h1, h2, h3⟩ := t1.isi (K := K)
    obtain ⟨ki, _, _, _, _⟩ := kitS K hT
    have non : tOp (rIxL K) (tLst (tCons (tVar 1) (tCons (tLst (tCons (tVar 1) tNil)) (tCons (tTup (tCons (tVar 1) (tCons (tVar 1) tNil))) (tCons (tC V.non) tNil))))) (tCall spDraw [] E0 (tCons (tVar 0) (tCons (tC (V.int 4)) tNil))) (List.set (L2.start n_law_bent [V.ref d, x]) 2 (some (V.int r))) H1 Q := by
      refine ⟨x, rfl, x, rfl, (show (1 : Nat) ≤ sizeLine by decide), fun p1 n1 => ?_⟩
      have m1 := al1.ni n1
      have j1 : Kp [] H1 (upd H1 p1 (.lst [x])) := Kp.new n1
      have e1 : upd H1 p1 (.lst [x]) p1 = some (.lst [x]) := upd_same
      generalize upd H1 p1 (.lst [x]) = H2 at j1 e1 ⊢
      refine ⟨x, rfl, x, rfl, (show (2 : Nat) ≤ sizeLine by decide), fun p2 n2 => ?_⟩
      have j2 : Kp [] H2 (upd H2 p2 (.tup [x, x])) := Kp.new n2
      have e2 : upd H2 p2 (.tup [x, x]) p2 = some (.tup [x, x]) := upd_same
      generalize upd H2 p2 (.tup [x, x]) = H3 at j2 e2 ⊢
      refine ⟨(show (4 : Nat) ≤ sizeLine by decide), fun p3 n3 => ?_⟩
      have n3' : H3 p3 = none := n3
      have j3 : Kp [] H3 (upd H3 p3 (.lst [x, .ref p1, .ref p2, .non])) := Kp.new n3
      have e3 : upd H3 p3 (.lst [x, .ref p1, .ref p2, .non]) p3 = some (.lst [x, .ref p1, .ref p2, .non]) := upd_same
      dsimp only
      generalize upd H3 p3 (.lst [x, .ref p1, .ref p2, .non]) = H4 at j3 e3 ⊢
      have j04 : Kp [] H1 H4 := (j1.trans j2).trans j3
      have D4 := D1.kp0 j04
      have m3 : p3 ∉ [d, c] := D1.ni ((j1.trans j2).back n3')
      refine ⟨_, rfl, d, c, 4, rfl, D4, by decide, by decide, fun r H7 r0 r1 D7 k7 => ?_⟩
      have s7 : Sv M H4 H7 := D4.sv hd hc k7
      have t7 := t1.sv ((j04.sv (M := M)).trans s7)
      obtain ⟨v, hv, hm⟩ := pick (xs := [x, .ref p1, .ref p2, .non]) r0 r1
      refine ⟨p3, _, r, v, rfl, rfl, lOf (k7 _ _ m3 e3), hv, ?_⟩
      refine q v H7 ?_ D7 ((k1.trans (j04.mono (by simp))).trans k7)
      simp only [List.mem_cons, List.not_mem_nil, or_false] at hm
      rcases hm with rfl | rfl | rfl | rfl
      · exact t7.mono (by omega)
      · exact .lst m1 (((j2.trans j3).sv.trans s7).1 _ _ m1 e1) (by simp; omega) (fun y hy => by rw [List.mem_singleton.mp hy]; exact t7)
      · exact .tup ((j3.sv.trans s7).2.1 _ _ e2) (by simp; omega) (fun y hy => by
          have : y = x := by simpa using hy
          rw [this]; exact t7)
      · exact .non
    refine ⟨x, rfl, x, .ty "tuple", _, _, _, rfl, .ty "tuple", ty, ki, _, rfl, ?_⟩
    by_cases hb : Ty = "tuple"
    · rw [decide_eq_true hb]
      obtain ⟨a, xs, rfl, ea⟩ := h1.mp hb
      refine iteF ?_
      refine ⟨.ref a, rfl, a, xs, rfl, .inr (tOf ea), rfl, _, rfl, ?_⟩
      refine ite2 (fun _ => non) fun he => ?_
      refine ⟨.int r, rfl, rfl, _, rfl, ite2 (fun _ => non) fun hr0 => ?_⟩
      have l2 : xs.length = 2 := by
        simp only [Bool.not_eq_true, Bool.not_eq_false', decide_eq_true_eq, V.int.injEq] at he
        omega
      obtain ⟨y, z, rfl⟩ : ∃ y z, xs = [y, z] := by
        match xs, l2 with
        | [y, z], _ => exact ⟨y, z, rfl⟩
      obtain ⟨m, rfl, lx, hx⟩ := tupd t1 ea
      refine ⟨.int r, rfl, rfl, _, rfl, ite2 (fun h4 => ?_) fun h4 => ?_⟩
      · refine ⟨.ref a, rfl, a, _, rfl, tOf ea, fun pR nR => ?_⟩
        have j1 : Kp [] H1 (upd H1 pR (.tup [z, y])) := Kp.new nR
        have e1 : upd H1 pR (.tup [z, y]) pR = some (.tup [z, y]) := upd_same
        rw [show [y, z].reverse = [z, y] from rfl]
        generalize upd H1 pR (.tup [z, y]) = H2 at j1 e1 ⊢
        refine ⟨.ref a, rfl, 1, rfl, slA_any (j1 a _ (by simp) ea) fun pS H3 e2 j2 => ?_⟩
        rw [show cutV [y, z] none (some 1) = [y] from cut_to [y, z] 1] at e2
        have j13 := j1.trans j2
        refine ⟨.ref a, rfl, .ref a, rfl, 1, rfl, slA_any (j13 a _ (by simp) ea) fun pS2 H4 e3 j3 => ?_⟩
        rw [show cutV [y, z] none (some 1) = [y] from cut_to [y, z] 1] at e3
        have j14 := j13.trans j3
        refine catA_any (j14 a _ (by simp) ea) e3 (show (3 : Nat) ≤ sizeLine by decide) fun pC H5 e4 j4 => ?_
        have j15 := j14.trans j4
        refine ⟨.ref a, rfl, 1, rfl, slA_any (j15 a _ (by simp) ea) fun pS3 H6 e5 j5 => ?_⟩
        rw [show cutV [y, z] none (some 1) = [y] from cut_to [y, z] 1] at e5
        refine ⟨pS3, 2, [y], rfl, rfl, tOf e5, by simp, by decide, by decide, (show (1 : Nat) ≤ 1000 by decide), fun e => absurd e (by decide), fun _ pX nX => ?_⟩
        have j6 : Kp [] H6 (upd H6 pX (.tup (List.replicate (2 : Int).toNat [y]).flatten)) := Kp.new nX
        have e6 : upd H6 pX (.tup (List.replicate (2 : Int).toNat [y]).flatten) pX = some (.tup [y, y]) := upd_same
        generalize upd H6 pX (.tup (List.replicate (2 : Int).toNat [y]).flatten) = H7 at j6 e6 ⊢
        have j17 := (j15.trans j5).trans j6
        refine ⟨(show (4 : Nat) ≤ sizeLine by decide), fun p3 n3 => ?_⟩
        have n3' : H7 p3 = none := n3
        have j7 : Kp [] H7 (upd H7 p3 (.lst [.ref pR, .ref pS, .ref pC, .ref pX])) := Kp.new n3
        have e7 : upd H7 p3 (.lst [.ref pR, .ref pS, .ref pC, .ref pX]) p3 = some (.lst [.ref pR, .ref pS, .ref pC, .ref pX]) := upd_same
        dsimp only
        generalize upd H7 p3 (.lst [.ref pR, .ref pS, .ref pC, .ref pX]) = H8 at j7 e7 ⊢
        have j18 : Kp [] H1 H8 := j17.trans j7
        have D8 := D1.kp0 j18
        have m3 : p3 ∉ [d, c] := D1.ni (j17.back n3')
        refine ⟨_, rfl, d, c, 4, rfl, D8, by decide, by decide, fun r H9 r0 r1 D9 k9 => ?_⟩
        have s9 : Sv M H8 H9 := D8.sv hd hc k9
        have hx9 : ∀ u ∈ [y, z], Th M H9 m u := fun u hu => (hx u hu).sv ((j18.sv (M := M)).trans s9)
        have ty9 := (hx9 y (by simp)).mono (show m ≤ m + 1 by omega)
        have tz9 := (hx9 z (by simp)).mono (show m ≤ m + 1 by omega)
        obtain ⟨v, hv, hm⟩ := pick (xs := [.ref pR, .ref pS, .ref pC, .ref pX]) r0 r1
        refine ⟨p3, _, r, v, rfl, rfl, lOf (k9 _ _ m3 e7), hv, ?_⟩
        refine q v H9 ?_ D9 ((k1.trans (j18.mono (by simp))).trans k9)
        have g2 : Sv M H2 H9 := ((((((j2.trans j3).trans j4).trans j5).trans j6).trans j7).sv (M := M)).trans s9
        have g3 : Sv M H3 H9 := (((((j3.trans j4).trans j5).trans j6).trans j7).sv (M := M)).trans s9
        have g5 : Sv M H5 H9 := (((j5.trans j6).trans j7).sv (M := M)).trans s9
        have g7 : Sv M H7 H9 := (j7.sv (M := M)).trans s9
        simp only [List.mem_cons, List.not_mem_nil, or_false] at hm
        rcases hm with rfl | rfl | rfl | rfl
        · exact .tup (g2.2.1 _ _ e1) (by simp; omega) (fun u hu => by
            simp only [List.mem_cons, List.not_mem_nil, or_false] at hu
            rcases hu with rfl | rfl
            · exact tz9
            · exact ty9)
        · exact .tup (g3.2.1 _ _ e2) (by simp; omega) (fun u hu => by rw [List.mem_singleton.mp hu]; exact ty9)
        · exact .tup (g5.2.1 _ _ e4) (by simp; omega) (fun u hu => by
            simp only [List.cons_append, List.nil_append, List.mem_cons, List.not_mem_nil, or_false] at hu
            rcases hu with rfl | rfl | rfl
            · exact ty9
            · exact tz9
            · exact ty9)
        · exact .tup (g7.2.1 _ _ e6) (by simp; omega) (fun u hu => by 
            have : u = y := by simpa using hu
            rw [this]; exact ty9)
      refine ⟨_, rfl, d, c, 2, rfl, D1, by decide, by decide, fun at_ H3 a0 a1 D3 k3 => ?_⟩
      obtain ⟨t, rfl⟩ : ∃ t : Nat, at_ = t := ⟨at_.toNat, by omega⟩
      have ea3 := tupD D1 k3 ea
      have hx3 : ∀ u ∈ [y, z], Th M H3 m u := fun u hu => (hx u hu).sv (D1.sv hd hc k3)
      have k03 : Kp [d, c] H H3 := k1.trans k3
      have al3 := al1.kpD D3 k3
      refine ⟨.ref a, rfl, .int t, rfl, t, rfl, slA_any ea3 fun pA H4 eA k4 => ?_⟩
      rw [show cutV [y, z] none (some (t : Int)) = [y, z].take t from cut_to _ t] at eA
      have D4 := D3.kp0 k4
      obtain ⟨v, hv, hm⟩ := pick (xs := [y, z]) a0 a1
      refine ⟨_, rfl, .ref a, rfl, .int t, rfl, a, _, t, v, rfl, rfl, tOf (k4 a _ (by simp) ea3), hv, M, m, d, c, v, rfl, D4, hd, hc, al3.kp0 k4, (hx3 v hm).sv k4.sv, by omega, fun w H5 tw D5 k5 => ?_⟩
      have s35 : Sv M H3 H5 := (k4.sv (M := M)).trans (D4.sv hd hc k5)
      refine ⟨(show (1 : Nat) ≤ sizeLine by decide), fun pT nT => ?_⟩
      have k6 : Kp [] H5 (upd H5 pT (.tup [w])) := Kp.new nT
      refine catA_any (k6 pA _ (by simp) (tupD D4 k5 eA)) upd_same (by rw [List.length_take]; exact le_sl (by simp; omega)) fun pB H6 eB k7 => ?_
      have k67 := k6.trans k7
      refine ⟨.ref a, rfl, .int t, rfl, _, 1, rfl, rfl, _, rfl, ?_⟩
      dsimp only [tNoPart]
      refine slA_any ((s35.trans k67.sv).2.1 _ _ ea3) fun pC H7 eC k8 => ?_
      rw [show cutV [y, z] (some ((t : Int) + 1)) none = [y, z].drop (t + 1) from cut_drop _ (t + 1)] at eC
      refine catA_any (k8 pB _ (by simp) eB) eC (by rw [List.length_append, List.length_take, List.length_drop]; exact le_sl (by simp; omega)) fun pD H8 eD k9 => ?_
      have k59 : Kp [] H5 H8 := (k67.trans k8).trans k9
      refine q _ _ (.tup eD (by simp only [List.length_append, List.length_take, List.length_drop, List.length_singleton, List.length_cons, List.length_nil]; omega) fun u hu => ?_) (D5.kp0 k59) (((k03.trans (k4.mono (by simp))).trans k5).trans (k59.mono (by simp)))
      rcases List.mem_append.mp hu with hu | hu
      · rcases List.mem_append.mp hu with hu | hu
        · exact ((hx3 u (List.mem_of_mem_take hu)).sv (s35.trans k59.sv)).mono (by omega)
        · rw [List.mem_singleton.mp hu]
          exact tw.sv k59.sv
      · exact ((hx3 u (List.mem_of_mem_drop hu)).sv (s35.trans k59.sv)).mono (by omega)
    · rw [decide_eq_false hb]
      exact non
end
end K30

namespace K30
open PySem PySem.Spec PyProof.Rows L2 GenW BT SX
section
variable {P : Program} {w : World} {K : PySem.W.Frag} {mg : Str → Option Value} {base : Heap}
/-- as read of a text -/
def farR (xs : List Int) : List Int := (List.range xs.length).map fun i => xs.getD i 0 * 10 ^ (20 : Int).toNat + (i : Int)
def Ps (T : Txt K mg) : List Addr := [T.P_joined, T.P_is_entries, T.P_is_table, T.P_read_table, T.P_read_line, T.P_are_figures, T.P_is_same]
def Tabs (T : Txt K mg) (base : Heap) : Prop := TabB base mg T.c_joined T.P_joined ∧ TabB base mg T.c_is_entries T.P_is_entries ∧ TabB base mg T.c_is_same T.P_is_same ∧ TabB base mg T.c_is_table T.P_is_table ∧ TabB base mg T.c_read_table T.P_read_table ∧ TabB base mg T.c_read_line T.P_read_line ∧ TabB base mg T.c_are_figures T.P_are_figures
def spRd (T : Txt K mg) : Sp := fun vs H Q _ => ∃ (a : Addr) (xs : List Int), vs = [.ref a] ∧ H a = some (.tup (xs.map V.int)) ∧ 0 < xs.length ∧ xs.length ≤ 60 ∧ (∀ x ∈ xs, -8000000000 ≤ x ∧ x ≤ 8000000000) ∧ TbG (Ps T) H ∧ ∀ p H', H' p = some (.tup ((farR xs).map V.int)) → Kp (Ps T) H H' → TbG (Ps T) H' → Q (.ref p) H'
theorem far_bd {x : Int} {i : Nat} (h : -8000000000 ≤ x ∧ x ≤ 8000000000) (hi : i < 60) : (x * 10 ^ (20 : Int).toNat + (i : Int)).natAbs < 10 ^ 30 := by
  have e : (10 : Int) ^ (20 : Int).toNat = 100000000000000000000 := by decide
  have e30 : (10 : Nat) ^ 30 = 1000000000000000000000000000000 := by decide
  rw [e, e30]
  omega
theorem log_bd {n : Nat} (h : n < 10 ^ 30) : n.log2 < 1920 := by
  by_cases c : n = 0
  · rw [c]; decide
  · have h2 : (10 : Nat) ^ 30 ≤ 2 ^ 1920 := by decide +kernel
    exact (Nat.log2_lt c).mpr (Nat.lt_of_lt_of_le h h2)
theorem ok_law_read (T : Txt K mg) (TB : Tabs T base) {k : Nat} : FnOk P w K mg base CX0 (k + 23) T.law_read.f T.law_read.fd p_law_read (spRd T) := by
  have G_read_table : FnOk P w K mg base CX0 22 T.read_table.f T.read_table.fd p_read_table (spRt (Ps T)) := ok_read_table T (Ps T) (by simp [Ps]) TB.2.1 (by simp [Ps]) TB.2.2.2.1 (by simp [Ps]) TB.2.2.2.2.2.2 (by simp [Ps]) TB.2.2.2.2.2.1 (by simp [Ps]) TB.2.2.2.2.1
  refine T.law_read.F.ok sc_law_read (fun vs H Q E h => ?_) (fun cdv A outer s H vs Q E hr h => ?_)
  · obtain ⟨a, xs, rfl, _⟩ := h
    rfl
  · obtain ⟨a, xs, rfl, hA, x0, x1, bd, hG, q⟩ := h
    replace hr := hr.mono (show 22 ≤ k + 22 by omega)
    have nd := sc_law_read.nd
    refine ⟨_, (pss_one (ps_ret (pe_ix (ixTK K) (pe_call G_read_table (hr.mono (by decide)) (by rfl) T.read_table.g T.read_table.F.kp T.read_table.b .nil pass0 (pa_cons (pe_join pe_str (pe_lc (own := [("_law_k", 1), ("_law_number_here", 2)]) rfl nd (pi_enumT (by rfl) T.b_enumerate (pa_cons (pv 0) pa_nil)) (blkOk_by (own := [("_law_k", 1), ("_law_number_here", 2)]) (N := n_law_read) (sc := defScope s_law_read) (by decide +kernel)) (fun _ _ _ _ _ => (pgTK K (n := 2) (by rfl) (pgs_cons (pg_name (i := 1) nd rfl (Or.inl rfl)) (pgs_cons (pg_name (i := 2) nd rfl (Or.inl rfl)) pgs_nil)))) (fun _ _ _ _ _ => pts_nil) (fun _ _ _ _ _ => (pe_callTy call_str_int (by rfl) T.b_str (by decide +kernel) (pa_cons (pe_op op_add (pe_op op_mul (pv 2) (pe_op op_pow pe_int pe_int)) (pv 1)) pa_nil))))) pa_nil)) pe_int (fun _ _ => rfl)))), ?_⟩
    have lfr : (farR xs).length = xs.length := by unfold farR; rw [List.length_map, List.length_range]
    have far_at : ∀ i, i < xs.length → (farR xs)[i]? = some (xs.getD i 0 * 10 ^ (20 : Int).toNat + (i : Int)) := fun i hi => by unfold farR; rw [List.getElem?_map, List.getElem?_range hi]; rfl
    have fbd : ∀ z ∈ farR xs, z.natAbs < 10 ^ 30 := fun z hz => by
      unfold farR at hz
      obtain ⟨i, hi, rfl⟩ := List.mem_map.mp hz
      have hi := List.mem_range.mp hi
      exact far_bd (bd _ (List.mem_of_getElem? (dg hi))) (by omega)
    refine ⟨⟨_, rfl⟩, .ref a, rfl, a, _, rfl, tOf hA, fun D nD => ?_⟩
    refine lc_it (walk_enumT (xs := xs.map V.int)) (LcP [] H D fun i => .str (S (zl (xs.getD i 0 * 10 ^ (20 : Int).toNat + (i : Int))))) (LcP.zero nD) (fun i H' _ hp => tOf (hp.1 a _ (by simp) hA)) (fun i x Ha Hb hi hp hy => ?_) fun H2 hp => ?_
    · obtain ⟨T1, x1', y1', rfl, nT, rfl, hx1, hy1⟩ := hy
      obtain ⟨kA, hD⟩ := hp
      dsimp only at hx1 hy1
      cases hx1
      rw [List.length_map] at hi
      rw [ivAt hi] at hy1
      cases hy1
      have kB : Kp [] Ha (upd Ha T1 (.tup [.int (i : Nat), .int (xs.getD i 0)])) := Kp.new nT
      have hb := bd _ (List.mem_of_getElem? (dg hi))
      refine ⟨T1, _, rfl, tOf upd_same, rfl, _, _, rfl, _, _, rfl, rfl, rfl, .int (xs.getD i 0), rfl, 10, 20, rfl, rfl, ⟨by decide, by decide, by decide⟩, _, _, rfl, rfl, cmulL (by omega) (by omega), .int (i : Nat), rfl, _, _, rfl, rfl, _, rfl, log_bd (far_bd hb (by omega)), ?_⟩
      exact LcP.step (kA.trans kB) (kB D _ (by simp) hD) (small (m := 1000) (by omega)) nD (by rw [wd_S])
    obtain ⟨k2, hD⟩ := hp
    have eL : ((List.range xs.length).map fun i => V.str (S (zl (xs.getD i 0 * 10 ^ (20 : Int).toNat + (i : Int))))) = ((farR xs).map fun z => S (zl z)).map V.str := by unfold farR; rw [List.map_map, List.map_map]; rfl
    rw [List.length_map, eL] at hD
    refine ⟨_, D, (farR xs).map fun z => S (zl z), rfl, rfl, .inl (lOf hD), ?_, ?_⟩
    · have hs : ((((farR xs).map fun z => S (zl z)).map (·.length)).sum) ≤ xs.length * 31 := by
        rw [List.map_map, ← lfr]
        have gen : ∀ zs : List Int, (∀ z ∈ zs, z.natAbs < 10 ^ 30) → (zs.map ((fun (x : Str) => x.length) ∘ fun z => S (zl z))).sum ≤ zs.length * 31 := fun zs => by
          induction zs with
          | nil => intro _; exact Nat.zero_le _
          | cons z r ih =>
            intro h
            have h1 := ih fun y hy => h y (List.mem_cons_of_mem _ hy)
            have h2 := zl_len (h z List.mem_cons_self)
            rw [List.map_cons, List.sum_cons, List.length_cons]
            show (S (zl z)).length + _ ≤ _
            rw [S_len]
            omega
        exact gen _ fbd
      have e1 : (Str.ofString " ").length = 1 := by decide +kernel
      rw [List.length_map, lfr, e1]
      omega
    · have e32 : Str.ofString " " = S [32] := by decide +kernel
      rw [e32, ln_join]
      have G2 := hG.kp0 k2
      refine ⟨farR xs, rfl, fbd, by omega, by omega, G2, fun t p H3 et ep k3 g3 => ?_⟩
      exact ⟨t, _, _, .ref p, rfl, rfl, tOf et, atI_nat (j := 0) rfl, q p H3 ep ((k2.mono (by simp)).trans k3) g3⟩
end
end K30

namespace K30
open PySem PySem.Spec PyProof.Rows L2 GenW BT
section
variable {P : Program} {w : World} {K : PySem.W.Frag} {mg : Str → Option Value} {base : Heap}
def BdX (xs : List Int) : Prop := ∀ i, (xs.getD i 0).natAbs < 10 ^ 35
theorem ss_bd {xs ys : List Int} (hx : BdX xs) (hy : BdX ys) (k i : Nat) : (SS xs ys k i).natAbs < 10 ^ 40 := by
  have h1 := hx i
  have h2 := hy (k - i)
  have h3 := Int.natAbs_add_le (xs.getD i 0) (ys.getD (k - i) 0)
  have e1 : (10 : Nat) ^ 35 = 100000000000000000000000000000000000 := by decide
  have e2 : (10 : Nat) ^ 40 = 10000000000000000000000000000000000000000 := by decide
  unfold SS
  omega
def spOP : Sp := fun vs H Q _ => ∃ (M : List Addr) (d c a b t : Addr) (xs ys : List Int), vs = [.ref d, .ref a, .ref b, .ref t] ∧ Dl d c H ∧ d ∈ M ∧ c ∈ M ∧ Al M H ∧ H a = some (.tup (xs.map V.int)) ∧ H b = some (.tup (ys.map V.int)) ∧ 0 < xs.length ∧ xs.length ≤ 100 ∧ 0 < ys.length ∧ ys.length ≤ 100 ∧ BdX xs ∧ BdX ys ∧ Pr2 H t (jsum xs ys) (jfst xs ys) ∧
  ∀ v H', Th M H' 2 v → Dl d c H' → Kp [d, c] H H' → Q v H'
theorem ok_other_places (T : Txt K mg) {k : Nat} : FnOk P w K mg base CX0 (k + 2) T.law_other_places.f T.law_other_places.fd p_law_other_places spOP := by
  have G_law_draw : FnOk P w K mg base CX0 1 T.law_draw.f T.law_draw.fd p_law_draw spDraw := ok_draw T
  refine T.law_other_places.F.ok sc_law_other_places (fun vs H Q E h => ?_) (fun cdv A outer s H vs Q E hr h => ?_)
  · obtain ⟨M, d, c, a, b, t, xs, ys, rfl, _⟩ := h
    rfl
  · obtain ⟨M, d, c, a, b, t, xs, ys, rfl, hD, hd, hc, al, hA, hB, x0, x1, y0, y1, bx, by_, ⟨sd, fd, et, es, ef⟩, q⟩ := h
    replace hr := hr.mono (show 1 ≤ k + 1 by omega)
    have nd := sc_law_other_places.nd
    refine ⟨_, (pss_cons (ps_set (i := 4) nd rfl (Or.inl rfl) (pe_call G_law_draw (hr.mono (by decide)) (by rfl) T.law_draw.g T.law_draw.F.kp T.law_draw.b .nil pass0 (pa_cons (pv 0) (pa_cons pe_int pa_nil))))
        (pss_cons (ps_set (i := 5) nd rfl (Or.inl rfl) (pe_lst pa_nil))
        (pss_cons (ps_for PassesOwn.never rfl (pi_range1 (by rfl) T.b_range (pa_cons (pe_callB (lenK K) (by rfl) T.b_len PySem.boot_len (pa_cons (pe_ix (ixTK K) (pv 3) pe_int (fun _ _ => rfl)) pa_nil)) pa_nil)) (pg_name (i := 6) nd rfl (Or.inr rfl)) (pss_cons (ps_set (i := 7) nd rfl (Or.inl rfl) (pe_listRg rfl (by rfl) T.b_list (prg_2 (by rfl) T.b_range (pe_callB (call_max2 rfl) (by rfl) T.b_max (by decide +kernel) (pa_cons pe_int (pa_cons (pe_op op_add (pe_op op_sub (pv 6) (pe_callB (lenK K) (by rfl) T.b_len PySem.boot_len (pa_cons (pv 2) pa_nil))) pe_int) pa_nil))) (pe_callB (call_min2 rfl) (by rfl) T.b_min (by decide +kernel) (pa_cons (pe_callB (lenK K) (by rfl) T.b_len PySem.boot_len (pa_cons (pv 1) pa_nil)) (pa_cons (pe_op op_add (pv 6) pe_int) pa_nil))))))
        (pss_cons (ps_setLc (i := 8) (own := [("_law_i", 10)]) rfl nd rfl rfl (sw_true rfl rfl rfl (by decide +kernel)) (piLK K (pv 7)) (blkOk_by (own := [("_law_i", 10)]) (N := n_law_other_places) (sc := defScope s_law_other_places) (by decide +kernel)) (fun _ _ _ _ _ => (pg_name (i := 10) nd rfl (Or.inl rfl))) (fun _ _ _ _ _ => (pts_one (pt_cmpR op_eq (pe_op op_add (pe_ix (ixTK K) (pv 1) (pv 10) (fun _ _ => rfl)) (pe_ix (ixTK K) (pv 2) (pe_op op_sub (pv 6) (pv 10)) (fun _ _ => rfl))) (pe_ix (ixTK K) (pe_ix (ixTK K) (pv 3) pe_int (fun _ _ => rfl)) (pv 6) (fun _ _ => rfl)) (nomark _)))) (fun _ _ _ _ _ => (pv 10)))
        (pss_one (ps_expr (pe_bm PySem.F.plainAttrs_list PySem.F.slot_list_append PySem.F.type_list_append mt_append (pv 5) (pa_cons (pe_ix (ixLK K) (pe_lst (pa_cons (pe_ix (ixLK K) (pv 8) (pe_un un_neg pe_int) (fun _ _ => rfl)) (pa_cons (pe_ix (ixLK K) (pv 8) (pe_call G_law_draw (hr.mono (by decide)) (by rfl) T.law_draw.g T.law_draw.F.kp T.law_draw.b .nil pass0 (pa_cons (pv 0) (pa_cons (pe_callB (lenK K) (by rfl) T.b_len PySem.boot_len (pa_cons (pv 8) pa_nil)) pa_nil))) (fun _ _ => rfl)) (pa_cons (pe_ix (ixLK K) (pv 7) (pe_call G_law_draw (hr.mono (by decide)) (by rfl) T.law_draw.g T.law_draw.F.kp T.law_draw.b .nil pass0 (pa_cons (pv 0) (pa_cons (pe_callB (lenK K) (by rfl) T.b_len PySem.boot_len (pa_cons (pv 7) pa_nil)) pa_nil))) (fun _ _ => rfl)) pa_nil)))) (pv 4) (fun _ _ => rfl)) pa_nil)))))))
        (pss_cons (ps_setLc (i := 9) (own := [("_law_k", 6), ("_law_i", 10)]) rfl nd rfl rfl (sw_true rfl rfl rfl (by decide +kernel)) (pi_enum (by rfl) T.b_enumerate (pa_cons (pv 5) pa_nil)) (blkOk_by (own := [("_law_k", 6), ("_law_i", 10)]) (N := n_law_other_places) (sc := defScope s_law_other_places) (by decide +kernel)) (fun _ _ _ _ _ => (pgTK K (n := 2) (by rfl) (pgs_cons (pg_name (i := 6) nd rfl (Or.inl rfl)) (pgs_cons (pg_name (i := 10) nd rfl (Or.inl rfl)) pgs_nil)))) (fun _ _ _ _ _ => pts_nil) (fun _ _ _ _ _ => (pe_op op_add (pe_ix (ixTK K) (pv 1) (pv 10) (fun _ _ => rfl)) (pe_ix (ixTK K) (pv 2) (pe_op op_sub (pv 6) (pv 10)) (fun _ _ => rfl)))))
        (pss_one (ps_ret (pe_tup (pa_cons (pe_ix (ixLK K) (pe_lst (pa_cons (pe_callTy (tupK K) (by rfl) T.b_tuple (by decide +kernel) (pa_cons (pv 9) pa_nil)) (pa_cons (pe_ix (ixTK K) (pv 3) pe_int (fun _ _ => rfl)) pa_nil))) (pe_call G_law_draw (hr.mono (by decide)) (by rfl) T.law_draw.g T.law_draw.F.kp T.law_draw.b .nil pass0 (pa_cons (pv 0) (pa_cons pe_int pa_nil))) (fun _ _ => rfl)) (pa_cons (pe_callTy (tupK K) (by rfl) T.b_tuple (by decide +kernel) (pa_cons (pv 5) pa_nil)) pa_nil))))))))), ?_⟩
    refine ⟨_, rfl, d, c, 3, rfl, hD, by decide, by decide, fun r H1 r0 r1 D1 k1 => ?_⟩
    refine ⟨Nat.zero_le _, fun F nF => ?_⟩
    have iF : F ∉ [d, c] := D1.ni nF
    have nFH : H F = none := k1.backM iF nF
    have mF : F ∉ M := al.ni nFH
    have kF : Kp [] H1 (upd H1 F (.lst [])) := Kp.new nF
    have eF : upd H1 F (.lst []) F = some (.lst []) := upd_same
    generalize upd H1 F (.lst []) = H2 at kF eF ⊢
    have k2 : Kp [d, c] H H2 := k1.trans (kF.mono (by simp))
    have D2 := D1.kp0 kF
    have lJ := jsum_len xs ys
    refine ⟨.ref t, rfl, t, _, 0, .ref sd, rfl, rfl, tOf (tupD hD k2 et), atI_nat (j := 0) rfl, sd, _, rfl, .inr (tOf (tupD hD k2 es)), _, rfl, by omega, by rw [List.length_map]; omega, ?_⟩
    rw [show (((jsum xs ys).map V.int).length : Int).toNat = xs.length + ys.length - 1 by rw [List.length_map]; omega]
    refine for_it walk_range (fun i σ H' => ∃ (y6 y7 y8 y9 y10 : Option V) (fs : List Nat), σ = [some (.ref d), some (.ref a), some (.ref b), some (.ref t), some (.int r), some (.ref F), y6, y7, y8, y9, y10] ∧ Kp [d, c] H H' ∧ Dl d c H' ∧ H' F = some (.lst (fs.map fun (l : Nat) => V.int (l : Int))) ∧ fs.length = i ∧ ∀ j, j < i → Vl xs ys j (fs.getD j 0)) ⟨_, _, _, _, _, [], rfl, k2, D2, eF, rfl, fun j hj => absurd hj (Nat.not_lt_zero j)⟩ (fun _ _ _ _ _ => trivial) (fun i x σ Ha Hb hi hp hy => ?_) fun σ Ha hp => ?_
    · obtain ⟨y6, y7, y8, y9, y10, fs, rfl, kA, DA, hF, lf, hv⟩ := hp
      obtain ⟨rfl, rfl⟩ := hy
      have hA1 := tupD hD kA hA
      have hB1 := tupD hD kA hB
      have hT1 := tupD hD kA et
      have hS1 := tupD hD kA es
      refine ⟨.int (0 + (i : Nat)), rfl, .ref b, rfl, b, _, rfl, .inr (tOf hB1), _, _, rfl, rfl, _, 1, rfl, rfl, 0, _, rfl, ?_⟩
      obtain ⟨st, hst⟩ : ∃ st : Nat, st = i + 1 - ys.length := ⟨_, rfl⟩
      have est : (if (0 + (i : Int)) - ((ys.map V.int).length : Nat) + 1 > 0 then (0 + (i : Int)) - ((ys.map V.int).length : Nat) + 1 else 0) = (st : Int) := by
        rw [List.length_map]
        split <;> omega
      try dsimp only
      rw [est]
      refine ⟨.ref a, rfl, a, _, rfl, .inr (tOf hA1), .int (0 + (i : Nat)), rfl, _, 1, rfl, rfl, _, _, rfl, ?_⟩
      obtain ⟨en, hen⟩ : ∃ en : Nat, en = min xs.length (i + 1) := ⟨_, rfl⟩
      have een : (if (0 + (i : Int)) + 1 < (((xs.map V.int).length : Nat) : Int) then (0 + (i : Int)) + 1 else (((xs.map V.int).length : Nat) : Int)) = (en : Int) := by
        rw [List.length_map]
        split <;> omega
      try dsimp only
      rw [een]
      refine ⟨_, _, rfl, rfl, RgOk.of_le (by omega) (by omega) (by omega) (by omega), fun S nS => ?_⟩
      have nS' : Hb S = none := nS
      have iS := DA.ni nS'
      have kS : Kp [] Hb (upd Hb S (.lst (rgV (st : Int) (en : Int)))) := Kp.new nS'
      have eS : upd Hb S (.lst (rgV (st : Int) (en : Int))) S = some (.lst ((List.range (en - st)).map fun (j : Nat) => V.int ((st + j : Nat) : Int))) := by rw [upd_same, rg_st]
      generalize upd Hb S (.lst (rgV (st : Int) (en : Int))) = H3 at kS eS ⊢
      have hF3 := kS F _ (by simp) hF
      have hA3 := kS a _ (by simp) hA1
      have hB3 := kS b _ (by simp) hB1
      have hT3 := kS t _ (by simp) hT1
      have hS3 := kS sd _ (by simp) hS1
      refine ⟨.ref S, rfl, S, rfl, ⟨_, lOf eS⟩, fun D2 nD2 => ?_⟩
      have iD : D2 ∉ [d, c] := (DA.kp0 kS).ni nD2
      refine lc_it (walk_list (xs := (List.range (en - st)).map fun (j : Nat) => V.int ((st + j : Nat) : Int))) (fun j H' => Kp [] H3 H' ∧ ∃ ls : List Nat, H' D2 = some (.lst (ls.map fun (l : Nat) => V.int (l : Int))) ∧ ls = ((List.range j).map (st + ·)).filter fun l => decide (SS xs ys i l = sm xs ys i)) ⟨Kp.new nD2, [], upd_same, rfl⟩ (fun j H' _ hp => lOf (hp.1 S _ (by simp) eS)) (fun j x Hc Hd hj hp hy => ?_) fun H6 hp => ?_
      · obtain ⟨kC, ls, hD, els⟩ := hp
        obtain ⟨rfl, hv⟩ := hy
        rw [List.length_map, List.length_range] at hj
        rw [List.getElem?_map, List.getElem?_range hj] at hv
        have ex : x = .int ((st + j : Nat) : Int) := (Option.some.inj hv).symm
        subst ex
        refine ⟨rfl, .ref a, rfl, .int ((st + j : Nat) : Int), rfl, a, _, _, .int (xs.getD (st + j) 0), rfl, rfl, tOf (kC a _ (by simp) hA3), at_i (n := st + j) rfl (ivAt (by omega)), .ref b, rfl, .int (0 + (i : Nat)), rfl, .int ((st + j : Nat) : Int), rfl, _, _, rfl, rfl, b, _, _, .int (ys.getD (i - (st + j)) 0), rfl, rfl, tOf (kC b _ (by simp) hB3), at_i (n := i - (st + j)) (by omega) (ivAt (by omega)),
          _, _, rfl, rfl, .ref t, rfl, t, _, 0, .ref sd, rfl, rfl, tOf (kC t _ (by simp) hT3), atI_nat (j := 0) rfl, .int (0 + (i : Nat)), rfl, sd, _, _, .int (sm xs ys i), rfl, rfl, tOf (kC sd _ (by simp) hS3), at_i (n := i) (by omega) (by unfold jsum; rw [List.map_map, List.getElem?_map, List.getElem?_range (by omega)]; rfl), rfl, _, rfl, ite2 (fun e => ?_) fun e => ?_⟩
        · have e' : decide (SS xs ys i (st + j) = sm xs ys i) = true := decide_eq_true (V.int.inj (of_decide_eq_true e))
          refine ⟨.int ((st + j : Nat) : Int), rfl, _, hD, ?_, kC.mut nD2, ls ++ [st + j], by rw [upd_same, List.map_append]; rfl, ?_⟩
          · rw [List.length_map, els]
            exact small (m := 1000) (Nat.le_trans (List.length_filter_le _ _) (by rw [List.length_map, List.length_range]; omega))
          · rw [filt_step, ← els, if_pos e']
        · refine ⟨kC, ls, hD, ?_⟩
          have e' : ¬ decide (SS xs ys i (st + j) = sm xs ys i) = true := fun z => e (decide_eq_true (congrArg V.int (of_decide_eq_true z)))
          rw [filt_step, ← els, if_neg e', List.append_nil]
      obtain ⟨k6, ls, hD2, els⟩ := hp
      rw [List.length_map, List.length_range] at els
      obtain ⟨tl, el⟩ := filt_fi x0 y0 (i := i) (by omega) hst hen (fun l _ => decide_eq_true_iff) els
      have vls : ∀ l ∈ ls, Vl xs ys i l := fun l hl => by
        rw [els] at hl
        obtain ⟨j, hj, rfl⟩ := List.mem_map.mp (List.mem_filter.mp hl).1
        have := List.mem_range.mp hj
        exact ⟨by omega, by omega, by omega⟩
      have ll : ls.length ≤ 200 := by
        rw [els]
        exact Nat.le_trans (List.length_filter_le _ _) (by rw [List.length_map, List.length_range]; omega)
      have D3 := DA.kp0 kS
      have D6 := D3.kp0 k6
      have l0 : 0 < ls.length := by rw [el]; simp
      have lw : (ls.map fun (l : Nat) => V.int (l : Int)).length = ls.length := List.length_map ..
      have okl : ∀ v ∈ (ls.map fun (l : Nat) => V.int (l : Int)), ∃ l : Nat, v = .int (l : Int) ∧ Vl xs ys i l := fun v hv => by
        obtain ⟨l, hl, rfl⟩ := List.mem_map.mp hv
        exact ⟨l, rfl, vls l hl⟩
      obtain ⟨v1, hv1, mv1⟩ : ∃ v1, (ls.map fun (l : Nat) => V.int (l : Int))[ls.length - 1]? = some v1 ∧ v1 ∈ (ls.map fun (l : Nat) => V.int (l : Int)) := ⟨_, List.getElem?_eq_getElem (by rw [lw]; omega), List.getElem_mem _⟩
      obtain ⟨z1, rfl, vz1⟩ := okl v1 mv1
      refine ⟨.ref F, rfl, .inl ⟨rfl, _, lOf (k6 F _ (by simp) hF3)⟩, .ref D2, rfl, 1, rfl, D2, _, _, .int (z1 : Int), rfl, rfl, lOf hD2, at_m1 (n := ls.length - 1) (by rw [lw]; omega) hv1, ?_⟩
      refine ⟨.ref D2, rfl, .ref d, rfl, .ref D2, rfl, D2, _, rfl, .inl (lOf hD2), d, c, _, rfl, D6, by rw [lw]; omega, by rw [lw]; omega, fun r2 H7 a0 a1 D7 k7 => ?_⟩
      obtain ⟨v2, hv2, mv2⟩ := pick a0 a1
      obtain ⟨z2, rfl, vz2⟩ := okl v2 mv2
      refine ⟨D2, _, r2, .int (z2 : Int), rfl, rfl, lOf (k7 D2 _ iD hD2), hv2, ?_⟩
      have eS7 := k7 S _ iS (k6 S _ (by simp) eS)
      refine ⟨.ref S, rfl, .ref d, rfl, .ref S, rfl, S, _, rfl, .inl (lOf eS7), d, c, _, rfl, D7, by rw [List.length_map, List.length_range]; omega, by rw [List.length_map, List.length_range]; omega, fun r3 H8 b0 b1 D8 k8 => ?_⟩
      obtain ⟨v3, hv3, mv3⟩ := pick b0 b1
      obtain ⟨z3, rfl, vz3⟩ : ∃ l : Nat, v3 = .int (l : Int) ∧ Vl xs ys i l := by
        obtain ⟨j, hj, rfl⟩ := List.mem_map.mp mv3
        have := List.mem_range.mp hj
        exact ⟨st + j, rfl, by omega, by omega, by omega⟩
      refine ⟨S, _, r3, .int (z3 : Int), rfl, rfl, lOf (k8 S _ iS eS7), hv3, ?_⟩
      refine ⟨(show (3 : Nat) ≤ sizeLine by decide), fun pL nL => ?_⟩
      have k9 : Kp [] H8 (upd H8 pL (.lst [.int (z1 : Int), .int (z2 : Int), .int (z3 : Int)])) := Kp.new nL
      obtain ⟨v4, hv4, mv4⟩ := pick (xs := [V.int (z1 : Int), .int (z2 : Int), .int (z3 : Int)]) r0 r1
      obtain ⟨z4, rfl, vz4⟩ : ∃ l : Nat, v4 = .int (l : Int) ∧ Vl xs ys i l := by
        simp only [List.mem_cons, List.not_mem_nil, or_false] at mv4
        rcases mv4 with rfl | rfl | rfl
        · exact ⟨_, rfl, vz1⟩
        · exact ⟨_, rfl, vz2⟩
        · exact ⟨_, rfl, vz3⟩
      have k69 : Kp [d, c] H3 (upd H8 pL (.lst [.int (z1 : Int), .int (z2 : Int), .int (z3 : Int)])) := (((k6.mono (by simp)).trans k7).trans k8).trans (k9.mono (by simp))
      refine ⟨.int r, rfl, pL, _, r, .int (z4 : Int), rfl, rfl, lOf upd_same, hv4, F, _, _, rfl, rfl, k69 F _ iF hF3, by rw [List.length_map, lf]; exact small (m := 1000) (by omega), ?_⟩
      refine ⟨_, _, _, _, _, fs ++ [z4], rfl, ((kA.trans (kS.mono (by simp))).trans k69).mut nFH, (D8.kp0 k9).up iF, by rw [upd_same, List.map_append]; rfl, by rw [List.length_append, lf]; rfl, fun j hj => ?_⟩
      rcases Nat.lt_or_ge j i with h | h
      · rw [show (fs ++ [z4]).getD j 0 = fs.getD j 0 by rw [List.getD_eq_getElem?_getD, List.getD_eq_getElem?_getD, List.getElem?_append_left (by omega)]]
        exact hv j h
      · have : j = i := by omega
        subst this
        rw [show (fs ++ [z4]).getD j 0 = z4 by rw [List.getD_eq_getElem?_getD, List.getElem?_append_right (by omega), lf, Nat.sub_self]; rfl]
        exact vz4
    · obtain ⟨y6, y7, y8, y9, y10, fs, rfl, kA, DA, hF, lf, hv⟩ := hp
      have hA1 := tupD hD kA hA
      have hB1 := tupD hD kA hB
      have hT1 := tupD hD kA et
      have hS1 := tupD hD kA es
      refine ⟨.ref F, rfl, F, _, rfl, lOf hF, fun D nD => ?_⟩
      refine lc_it (walk_enum (xs := fs.map fun (l : Nat) => V.int (l : Int))) (LcP [] Ha D fun i => .int (SS xs ys i (fs.getD i 0))) (LcP.zero nD) (fun i H' _ hp => lOf (hp.1 F _ (by simp) hF)) (fun i x Hb Hc hi hp hy => ?_) fun H2 hp => ?_
      · obtain ⟨T1, x1', y1', rfl, nT, rfl, hx1, hy1⟩ := hy
        obtain ⟨kB, hDl⟩ := hp
        dsimp only at hx1 hy1
        cases hx1
        rw [List.length_map] at hi
        have v := hv i (by omega)
        obtain ⟨v1, v2, v3⟩ := id v
        have ey : y1' = .int ((fs.getD i 0 : Nat) : Int) := by
          rw [List.getElem?_map, List.getElem?_eq_getElem hi] at hy1
          rw [List.getD_eq_getElem?_getD, List.getElem?_eq_getElem hi]
          exact (Option.some.inj hy1).symm
        subst ey
        have kC : Kp [] Hb (upd Hb T1 (.tup [.int (i : Nat), .int ((fs.getD i 0 : Nat) : Int)])) := Kp.new nT
        have kBC := kB.trans kC
        refine ⟨T1, _, rfl, tOf upd_same, rfl, _, _, rfl, _, _, rfl, rfl, rfl, .ref a, rfl, .int ((fs.getD i 0 : Nat) : Int), rfl, a, _, _, .int (xs.getD (fs.getD i 0) 0), rfl, rfl, tOf (kBC a _ (by simp) hA1), at_i (n := fs.getD i 0) rfl (ivAt (by omega)), .ref b, rfl, .int (i : Nat), rfl, .int ((fs.getD i 0 : Nat) : Int), rfl, _, _, rfl, rfl, b, _, _, .int (ys.getD (i - fs.getD i 0) 0), rfl, rfl, tOf (kBC b _ (by simp) hB1), at_i (n := i - fs.getD i 0) (by omega) (ivAt (by omega)), _, _, rfl, rfl, ?_⟩
        exact LcP.step kBC (kC D _ (by simp) hDl) (small (m := 1000) (by omega)) nD rfl
      obtain ⟨k2', hDl⟩ := hp
      rw [List.length_map] at hDl
      obtain ⟨LS, eLS⟩ : ∃ LS : List V, LS = (List.range fs.length).map fun i => V.int (SS xs ys i (fs.getD i 0)) := ⟨_, rfl⟩
      rw [← eLS] at hDl
      have lLS : LS.length = fs.length := by rw [eLS, List.length_map, List.length_range]
      refine ⟨.ref D, rfl, D, LS, rfl, .inl ⟨lOf hDl, fun p1 n1 => ?_⟩⟩
      have k3 : Kp [] H2 (upd H2 p1 (.tup LS)) := Kp.new n1
      have e1 : upd H2 p1 (.tup LS) p1 = some (.tup LS) := upd_same
      generalize upd H2 p1 (.tup LS) = H3 at k3 e1 ⊢
      have k13 := k2'.trans k3
      refine ⟨.ref t, rfl, t, _, 0, .ref sd, rfl, rfl, tOf (k13 t _ (by simp) hT1), atI_nat (j := 0) rfl, (show (2 : Nat) ≤ sizeLine by decide), fun pL nL => ?_⟩
      have nL' : H3 pL = none := nL
      have k4 : Kp [] H3 (upd H3 pL (.lst [.ref p1, .ref sd])) := Kp.new nL'
      have e4 : upd H3 pL (.lst [.ref p1, .ref sd]) pL = some (.lst [.ref p1, .ref sd]) := upd_same
      try dsimp only
      generalize upd H3 pL (.lst [.ref p1, .ref sd]) = H4 at k4 e4 ⊢
      have k14 := k13.trans k4
      have D4 := DA.kp0 k14
      have iL : pL ∉ [d, c] := (DA.kp0 k13).ni nL'
      refine ⟨_, rfl, d, c, 2, rfl, D4, by decide, by decide, fun r5 H5 c0 c1 D5 k5 => ?_⟩
      obtain ⟨v5, hv5, mv5⟩ := pick (xs := [V.ref p1, .ref sd]) c0 c1
      refine ⟨pL, _, r5, v5, rfl, rfl, lOf (k5 _ _ iL e4), hv5, ?_⟩
      have hF5 := k5 F _ iF (k14 F _ (by simp) hF)
      refine ⟨.ref F, rfl, F, _, rfl, .inl ⟨lOf hF5, fun p2 n2 => ?_⟩⟩
      have k6 : Kp [] H5 (upd H5 p2 (.tup (fs.map fun (l : Nat) => V.int (l : Int)))) := Kp.new n2
      have e6 : upd H5 p2 (.tup (fs.map fun (l : Nat) => V.int (l : Int))) p2 = some (.tup (fs.map fun (l : Nat) => V.int (l : Int))) := upd_same
      generalize upd H5 p2 (.tup (fs.map fun (l : Nat) => V.int (l : Int))) = H6 at k6 e6 ⊢
      refine ⟨(show (2 : Nat) ≤ sizeLine by decide), fun pt nt => ?_⟩
      have k7 : Kp [] H6 (upd H6 pt (.tup [v5, .ref p2])) := Kp.new nt
      have e7 : upd H6 pt (.tup [v5, .ref p2]) pt = some (.tup [v5, .ref p2]) := upd_same
      try dsimp only
      generalize upd H6 pt (.tup [v5, .ref p2]) = H7 at k7 e7 ⊢
      have k57 := k6.trans k7
      have kall : Kp [d, c] H H7 := ((kA.trans (k14.mono (by simp))).trans k5).trans (k57.mono (by simp))
      refine q (.ref pt) H7 (.tup e7 (by simp) fun u hu => ?_) (D5.kp0 k57) kall
      simp only [List.mem_cons, List.not_mem_nil, or_false] at hu
      rcases hu with rfl | rfl
      · simp only [List.mem_cons, List.not_mem_nil, or_false] at mv5
        rcases mv5 with rfl | rfl
        · refine .tup (k57 _ _ (by simp) (tupD D4 k5 (k4 _ _ (by simp) e1))) (by omega) fun z hz => ?_
          rw [eLS] at hz
          obtain ⟨i, _, rfl⟩ := List.mem_map.mp hz
          exact .int _ (pw_c (ss_bd bx by_ _ _))
        · refine .tup (tupD hD kall es) (by rw [List.length_map]; omega) fun z hz => ?_
          obtain ⟨y, hy, rfl⟩ := List.mem_map.mp hz
          unfold jsum at hy
          obtain ⟨i, _, rfl⟩ := List.mem_map.mp hy
          exact .int _ (pw_c (ss_bd bx by_ i (fi xs ys i)))
      · refine .tup (k7 _ _ (by simp) e6) (by rw [List.length_map]; omega) fun z hz => ?_
        obtain ⟨l, hl, rfl⟩ := List.mem_map.mp hz
        obtain ⟨i, hi, ei⟩ := List.mem_iff_getElem.mp hl
        have v := hv i (by omega)
        rw [List.getD_eq_getElem?_getD, List.getElem?_eq_getElem hi, ei] at v
        have v2 : l < xs.length := v.2.1
        exact .int _ (pw_c (by have h1 : (100 : Nat) ≤ 10 ^ 40 := by decide
                               omega))
end
end K30

namespace K30
open PySem PySem.Spec PyProof.Rows L2 GenW BT
section
variable {P : Program} {w : World} {K : PySem.W.Frag} {mg : Str → Option Value} {base : Heap}
def spLaw (T : Txt K mg) : Sp := fun vs H Q _ => ∃ (a : Addr) (ns : List Int), vs = [.ref a] ∧ SqL K H a (ns.map V.int) ∧ ns.length ≤ 63 ∧ TbG (Ps T) H ∧ ∀ H', Q (.bl true) H'
theorem law_start (T : Txt K mg) (H : Hp) (a : Addr) (ns : List Int) (hl : ns.length ≤ 63) (_ : ∀ z ∈ ns, Builtin.Int.intBits z ≤ 1048576) (hH : ∀ p ∈ [(T.c_joined, T.P_joined), (T.c_is_entries, T.P_is_entries), (T.c_is_same, T.P_is_same), (T.c_is_table, T.P_is_table), (T.c_read_table, T.P_read_table), (T.c_read_line, T.P_read_line), (T.c_are_figures, T.P_are_figures)], H p.2 = some (.tbl #[])) (hS : SqL K H a (ns.map V.int)) :
    spLaw T [.ref a] H (fun v _ => v = .bl true) fun _ _ _ => False := by
  refine ⟨a, ns, rfl, hS, hl, fun P hP => ?_, fun _ => rfl⟩
  simp only [Ps, List.mem_cons, List.not_mem_nil, or_false] at hP
  rcases hP with rfl | rfl | rfl | rfl | rfl | rfl | rfl
  · exact tabG0 (hH (T.c_joined, T.P_joined) (by simp))
  · exact tabG0 (hH (T.c_is_entries, T.P_is_entries) (by simp))
  · exact tabG0 (hH (T.c_is_table, T.P_is_table) (by simp))
  · exact tabG0 (hH (T.c_read_table, T.P_read_table) (by simp))
  · exact tabG0 (hH (T.c_read_line, T.P_read_line) (by simp))
  · exact tabG0 (hH (T.c_are_figures, T.P_are_figures) (by simp))
  · exact tabG0 (hH (T.c_is_same, T.P_is_same) (by simp))
theorem bdx {xs : List Int} {m : Nat} (h : ∀ x ∈ xs, x.natAbs < m) (hm : m ≤ 10 ^ 35) (h0 : 0 < m) : BdX xs := fun i => by
  rw [List.getD_eq_getElem?_getD]
  rcases Nat.lt_or_ge i xs.length with c | c
  · rw [List.getElem?_eq_getElem c]
    exact Nat.lt_of_lt_of_le (h _ (List.getElem_mem _)) hm
  · rw [List.getElem?_eq_none c]
    exact Nat.lt_of_lt_of_le h0 hm
theorem th_rows {M : List Addr} {H : Hp} {s f : Addr} {xs ys : List Int} (x0 : 0 < xs.length) (y0 : 0 < ys.length) (x1 : xs.length ≤ 100) (y1 : ys.length ≤ 100) (bx : BdX xs) (by_ : BdX ys) (es : H s = some (.tup ((jsum xs ys).map V.int))) (ef : H f = some (.tup ((jfst xs ys).map V.int))) : Th M H 1 (.ref s) ∧ Th M H 1 (.ref f) := by
  have lJ := jsum_len xs ys
  have lF := jfst_len xs ys
  refine ⟨.tup es (by rw [List.length_map]; omega) fun z hz => ?_, .tup ef (by rw [List.length_map]; omega) fun z hz => ?_⟩
  · obtain ⟨y, hy, rfl⟩ := List.mem_map.mp hz
    unfold jsum at hy
    obtain ⟨i, _, rfl⟩ := List.mem_map.mp hy
    exact .int _ (pw_c (ss_bd bx by_ i (fi xs ys i)))
  · obtain ⟨y, hy, rfl⟩ := List.mem_map.mp hz
    unfold jfst at hy
    obtain ⟨i, hi, rfl⟩ := List.mem_map.mp hy
    have hi := List.mem_range.mp hi
    have v := fi_vl x0 y0 (k := i) (by omega)
    have v2 := v.2.1
    exact .int _ (pw_c (by have h1 : (100 : Nat) ≤ 10 ^ 40 := by decide
                           omega))
theorem th_pr {M : List Addr} {H : Hp} {t s f : Addr} {xs ys : List Int} (et : H t = some (.tup [.ref s, .ref f])) (h : Th M H 1 (.ref s) ∧ Th M H 1 (.ref f)) : Th M H 2 (.ref t) := .tup et (by simp) fun z hz => by
  simp only [List.mem_cons, List.not_mem_nil, or_false] at hz
  rcases hz with rfl | rfl
  · exact h.1
  · exact h.2
theorem tbg_put {Qs : List Addr} {H : Hp} {p : Addr} {o : HO} {xs : List V} (g : TbG Qs H) (e : H p = some (.lst xs)) : TbG Qs (upd H p o) := g.kp (M := [p]) ((Kp.refl H).wr (by simp)) fun P hP z => g.nl e (by rw [← List.mem_singleton.mp z]; exact hP)
theorem ok_law (T : Txt K mg) (TB : Tabs T base) : FnOk P w K mg base CX0 30 T.law.f T.law.fd p_law (spLaw T) := by
  have G_law_deck : FnOk P w K mg base CX0 1 T.law_deck.f T.law_deck.fd p_law_deck (spDeck K) := ok_law_deck T
  have G_law_draw : FnOk P w K mg base CX0 1 T.law_draw.f T.law_draw.fd p_law_draw spDraw := ok_draw T
  have G_law_size : FnOk P w K mg base CX0 2 T.law_size.f T.law_size.fd p_law_size spSize := ok_size T
  have G_law_row : FnOk P w K mg base CX0 3 T.law_row.f T.law_row.fd p_law_row spRow := ok_row T
  have G_law_joined : FnOk P w K mg base CX0 1 T.law_joined.f T.law_joined.fd p_law_joined spLJ := ok_law_joined T
  have G_law_read : FnOk P w K mg base CX0 23 T.law_read.f T.law_read.fd p_law_read (spRd T) := ok_law_read T TB
  have G_joined : FnOk P w K mg base CX0 8 T.joined.f T.joined.fd p_joined (spJ (Ps T)) := ok_joined T (Ps T) (by simp [Ps]) TB.1
  have G_law_other_places : FnOk P w K mg base CX0 2 T.law_other_places.f T.law_other_places.fd p_law_other_places spOP := ok_other_places T
  have G_law_bent : FnOk P w K mg base CX0 4 T.law_bent.f T.law_bent.fd p_law_bent spPB := ok_bent T
  have G_law_told : FnOk P w K mg base CX0 13 T.law_told.f T.law_told.fd p_law_told (spTd (Ps T)) := ok_told T (Ps T) (by simp [Ps]) TB.1 (by simp [Ps]) TB.2.2.1
  have G_joined_holds : FnOk P w K mg base CX0 12 T.joined_holds.f T.joined_holds.fd p_joined_holds (spJH (Ps T)) := ok_joined_holds T (Ps T) (by simp [Ps]) TB.1 (by simp [Ps]) TB.2.2.1
  refine T.law.F.ok sc_law (fun vs H Q E h => ?_) (fun cdv A outer s H vs Q E hr h => ?_)
  · obtain ⟨a, ns, rfl, _⟩ := h
    rfl
  · obtain ⟨a, ns, rfl, hS, hl, g0, q⟩ := h
    have nd := sc_law.nd
    refine ⟨_, (pss_cons (ps_set (i := 1) nd rfl (Or.inl rfl) (pe_call G_law_deck (hr.mono (by decide)) (by rfl) T.law_deck.g T.law_deck.F.kp T.law_deck.b .nil pass0 (pa_cons (pv 0) pa_nil)))
        (pss_cons (ps_for PassesOwn.never rfl (pi_range1 (by rfl) T.b_range (pa_cons pe_int pa_nil)) (pg_name (i := 2) nd rfl (Or.inl rfl)) (pss_cons (ps_set (i := 3) nd rfl (Or.inl rfl) (pe_cmpR op_eq (pe_call G_law_draw (hr.mono (by decide)) (by rfl) T.law_draw.g T.law_draw.F.kp T.law_draw.b .nil pass0 (pa_cons (pv 1) (pa_cons pe_int pa_nil))) pe_int (nomark _)))
        (pss_cons (ps_set (i := 4) nd rfl (Or.inl rfl) (pe_lst (pa_cons (pe_call G_law_draw (hr.mono (by decide)) (by rfl) T.law_draw.g T.law_draw.F.kp T.law_draw.b .nil pass0 (pa_cons (pv 1) (pa_cons pe_int pa_nil))) (pa_cons (pe_call G_law_draw (hr.mono (by decide)) (by rfl) T.law_draw.g T.law_draw.F.kp T.law_draw.b .nil pass0 (pa_cons (pv 1) (pa_cons pe_int pa_nil))) pa_nil))))
        (pss_cons (ps_set (i := 5) nd rfl (Or.inl rfl) (pe_call G_law_row (hr.mono (by decide)) (by rfl) T.law_row.g T.law_row.F.kp T.law_row.b .nil pass0 (pa_cons (pv 1) (pa_cons (pe_ix (ixLK K) (pv 4) pe_int (fun _ _ => rfl)) (pa_cons (pe_call G_law_size (hr.mono (by decide)) (by rfl) T.law_size.g T.law_size.F.kp T.law_size.b .nil pass0 (pa_cons (pv 1) pa_nil)) pa_nil)))))
        (pss_cons (ps_set (i := 6) nd rfl (Or.inl rfl) (pe_call G_law_row (hr.mono (by decide)) (by rfl) T.law_row.g T.law_row.F.kp T.law_row.b .nil pass0 (pa_cons (pv 1) (pa_cons (pe_ix (ixLK K) (pv 4) pe_int (fun _ _ => rfl)) (pa_cons (pe_call G_law_size (hr.mono (by decide)) (by rfl) T.law_size.g T.law_size.F.kp T.law_size.b .nil pass0 (pa_cons (pv 1) pa_nil)) pa_nil)))))
        (Evl.pss_cut (ps_if (pt_val (pv 3)) (pss_one (ps_par (i := 5) (j := 6) (by rfl) nd rfl rfl (by decide) rfl rfl (pa_cons (pe_call G_law_read (hr.mono (by decide)) (by rfl) T.law_read.g T.law_read.F.kp T.law_read.b .nil pass0 (pa_cons (pv 5) pa_nil)) (pa_cons (pe_call G_law_read (hr.mono (by decide)) (by rfl) T.law_read.g T.law_read.F.kp T.law_read.b .nil pass0 (pa_cons (pv 6) pa_nil)) pa_nil)) (by rfl))) pss_nil)
        (pss_cons (ps_set (i := 7) nd rfl (Or.inl rfl) (pe_call G_law_joined (hr.mono (by decide)) (by rfl) T.law_joined.g T.law_joined.F.kp T.law_joined.b .nil pass0 (pa_cons (pv 5) (pa_cons (pv 6) pa_nil))))
        (pss_cons (ps_set (i := 8) nd rfl (Or.inl rfl) (pe_lst (pa_cons (pe_call G_joined (hr.mono (by decide)) (by rfl) T.joined.g T.joined.F.kp T.joined.b .nil pass0 (pa_cons (pv 5) (pa_cons (pv 6) pa_nil))) (pa_cons (pv 7) (pa_cons (pe_callTy (lisK K) (by rfl) T.b_list (by decide +kernel) (pa_cons (pv 7) pa_nil)) (pa_cons pe_non (pa_cons pe_int (pa_cons pe_str (pa_cons (pe_tup pa_nil) (pa_cons (pe_lst pa_nil) (pa_cons pe_dnewK (pa_cons (pe_tup (pa_cons (pv 7) pa_nil)) (pa_cons (pe_tup (pa_cons (pe_ix (ixTK K) (pv 7) pe_int (fun _ _ => rfl)) pa_nil)) (pa_cons pe_bl (pa_cons (pe_tup (pa_cons (pe_tup pa_nil) (pa_cons (pe_tup pa_nil) pa_nil))) pa_nil)))))))))))))))
        (pss_cons (ps_expr (pe_bm PySem.F.plainAttrs_list PySem.F.slot_list_append PySem.F.type_list_append mt_append (pv 8) (pa_cons (pe_tup (pa_cons pe_non (pa_cons pe_non pa_nil))) pa_nil)))
        (pss_cons (ps_for PassesOwn.never rfl (pi_range1 (by rfl) T.b_range (pa_cons pe_int pa_nil)) (pg_name (i := 9) nd rfl (Or.inl rfl)) (pss_cons (ps_set (i := 10) nd rfl (Or.inl rfl) (pv 7))
        (Evl.pss_cut (ps_if (pt_cmpR op_lt (pv 9) pe_int (nomark _)) (pss_one (ps_set (i := 10) nd rfl (Or.inl rfl) (pe_call G_law_other_places (hr.mono (by decide)) (by rfl) T.law_other_places.g T.law_other_places.F.kp T.law_other_places.b .nil pass0 (pa_cons (pv 1) (pa_cons (pv 5) (pa_cons (pv 6) (pa_cons (pv 7) pa_nil))))))) (pss_one (ps_for PassesOwn.never rfl (pi_range1 (by rfl) T.b_range (pa_cons (pe_op op_add pe_int (pe_call G_law_draw (hr.mono (by decide)) (by rfl) T.law_draw.g T.law_draw.F.kp T.law_draw.b .nil pass0 (pa_cons (pv 1) (pa_cons pe_int pa_nil)))) pa_nil)) (pg_name (i := 11) nd rfl (Or.inl rfl)) (pss_one (ps_set (i := 10) nd rfl (Or.inl rfl) (pe_call G_law_bent (hr.mono (by decide)) (by rfl) T.law_bent.g T.law_bent.F.kp T.law_bent.b .nil pass0 (pa_cons (pv 1) (pa_cons (pv 10) pa_nil))))))))
        (pss_one (ps_expr (pe_bm PySem.F.plainAttrs_list PySem.F.slot_list_append PySem.F.type_list_append mt_append (pv 8) (pa_cons (pv 10) pa_nil)))))))
        (pss_cons (ps_for PassesOwn.never rfl (piLK K (pe_op op_cat (pv 8) (pe_lst (pa_cons (pv 7) pa_nil)))) (pg_name (i := 10) nd rfl (Or.inl rfl)) (pss_one (ps_if (pt_not (pt_val (pe_call G_law_told (hr.mono (by decide)) (by rfl) T.law_told.g T.law_told.F.kp T.law_told.b .nil pass0 (pa_cons (pv 5) (pa_cons (pv 6) (pa_cons (pv 10) (pa_cons (pv 7) pa_nil))))))) (pss_one (ps_ret pe_bl)) pss_nil)))
        (pss_one (ps_if (pt_cmpR op_notBl (pe_call G_joined_holds (hr.mono (by decide)) (by rfl) T.joined_holds.g T.joined_holds.F.kp T.joined_holds.b .nil pass0 (pa_cons (pv 5) (pa_cons (pv 6) (pa_cons (pv 7) pa_nil)))) pe_bl (nomark _)) (pss_one (ps_ret pe_bl)) pss_nil)))))))))))))
        (pss_one (ps_ret pe_bl)))), ?_⟩
    refine ⟨.ref a, rfl, a, ns, rfl, hS, hl, fun d c H1 D1 k1 _ _ => ?_⟩
    refine ⟨3, rfl, by decide, by decide, ?_⟩
    refine for_it walk_range (fun i σ H' => ∃ (y2 y3 y4 y5 y6 y7 y8 y9 y10 y11 : Option V), σ = [some (.ref a), some (.ref d), y2, y3, y4, y5, y6, y7, y8, y9, y10, y11] ∧ Dl d c H' ∧ TbG (Ps T) H') ⟨_, _, _, _, _, _, _, _, _, _, rfl, D1, g0.kp0 k1⟩ (fun _ _ _ _ _ => trivial) (fun i x σ Ha Hb hi hp hy => ?_) fun σ Ha hp => ?_
    · obtain ⟨y2, y3, y4, y5, y6, y7, y8, y9, y10, y11, rfl, DA, gA⟩ := hp
      obtain ⟨rfl, rfl⟩ := hy
      refine ⟨.ref d, rfl, d, c, 8, rfl, DA, by decide, by decide, fun r1 H1 _ _ D1 k1 => ⟨rfl, ?_⟩⟩
      generalize decide (V.int r1 = V.int 5) = far
      have g1 := gA.kpD DA k1
      refine ⟨.ref d, rfl, d, c, 6, rfl, D1, by decide, by decide, fun q1 H2 _ _ D2 k2 => ?_⟩
      refine ⟨.ref d, rfl, d, c, 6, rfl, D2, by decide, by decide, fun q2 H3 _ _ D3 k3 => ⟨(show (2 : Nat) ≤ sizeLine by decide), fun S nS => ?_⟩⟩
      have g3 := (g1.kpD D1 k2).kpD D2 k3
      have iS := D3.ni nS
      have kS : Kp [] H3 (upd H3 S (.lst [.int q1, .int q2])) := Kp.new nS
      have eS : upd H3 S (.lst [.int q1, .int q2]) S = some (.lst [.int q1, .int q2]) := upd_same
      generalize upd H3 S (.lst [.int q1, .int q2]) = H4 at kS eS ⊢
      have D4 := D3.kp0 kS
      have g4 := g3.kp0 kS
      refine ⟨.ref d, rfl, .ref S, rfl, S, _, _, .int q1, rfl, rfl, lOf eS, atI_nat (j := 0) rfl, .ref d, rfl, d, c, rfl, D4, fun sz H5 s0 s1 D5 k5 => ⟨d, c, q1, sz, rfl, D5, s0, s1, fun pa xs H6 ea lx _ bx D6 k6 => ?_⟩⟩
      have k46 := k5.trans k6
      have g6 := g4.kpD D4 k46
      have eS6 := k46 S _ iS eS
      refine ⟨.ref d, rfl, .ref S, rfl, S, _, _, .int q2, rfl, rfl, lOf eS6, atI_nat (j := 1) rfl, .ref d, rfl, d, c, rfl, D6, fun sz2 H7 t0 t1 D7 k7 => ⟨d, c, q2, sz2, rfl, D7, t0, t1, fun pb ys H8 eb ly _ by_ D8 k8 => ?_⟩⟩
      have k68 := k7.trans k8
      have g8 := g6.kpD D6 k68
      have ea8 := tupD D6 k68 ea
      have near : ∀ zs : List Int, (∀ x ∈ zs, -8000000000 ≤ x ∧ x ≤ 8000000000) → BdX zs := fun zs h => bdx (m := 8000000001) (fun x hx => by have := h x hx; omega) (by decide) (by decide)
      have farb : ∀ zs : List Int, zs.length ≤ 60 → (∀ x ∈ zs, -8000000000 ≤ x ∧ x ≤ 8000000000) → BdX (farR zs) := fun zs hz h => bdx (m := 10 ^ 30) (fun z hz' => by
        unfold farR at hz'
        obtain ⟨i, hi, rfl⟩ := List.mem_map.mp hz'
        have hi := List.mem_range.mp hi
        exact far_bd (h _ (List.mem_of_getElem? (dg hi))) (by omega)) (by decide) (by decide)
      refine ⟨fun σ' H' => ∃ (y2 y3 y4 y7 y8 y9 y10 y11 : Option V) (pa pb : Addr) (xs ys : List Int), σ' = [some (.ref a), some (.ref d), y2, y3, y4, some (.ref pa), some (.ref pb), y7, y8, y9, y10, y11] ∧ Dl d c H' ∧ TbG (Ps T) H' ∧ H' pa = some (.tup (xs.map V.int)) ∧ H' pb = some (.tup (ys.map V.int)) ∧ 0 < xs.length ∧ xs.length ≤ 60 ∧ 0 < ys.length ∧ ys.length ≤ 60 ∧ BdX xs ∧ BdX ys, ?_, ?_⟩
      · refine ⟨.bl far, rfl, far, rfl, ?_⟩
        cases far with
        | false => exact iteF ⟨_, _, _, _, _, _, _, _, pa, pb, xs, ys, rfl, D8, g8, ea8, eb, by omega, by omega, by omega, by omega, near _ bx, near _ by_⟩
        | true =>
          refine iteT ?_
          refine ⟨.ref pa, rfl, pa, xs, rfl, ea8, by omega, by omega, bx, g8, fun p9 H9 e9 k9 g9 => ?_⟩
          refine ⟨.ref pb, rfl, pb, ys, rfl, tupT g8 k9 eb, by omega, by omega, by_, g9, fun p10 H10 e10 k10 g10 => ?_⟩
          have lfx : (farR xs).length = xs.length := by unfold farR; rw [List.length_map, List.length_range]
          have lfy : (farR ys).length = ys.length := by unfold farR; rw [List.length_map, List.length_range]
          exact ⟨_, _, rfl, _, _, _, _, _, _, _, _, p9, p10, farR xs, farR ys, rfl, (D8.kpT g8 k9).kpT g9 k10, g10, tupT g9 k10 e9, e10, by omega, by omega, by omega, by omega, farb _ (by omega) bx, farb _ (by omega) by_⟩
      · intro σ' H' hM
        obtain ⟨y2, y3, y4, y7, y8, y9, y10, y11, pa, pb, xs, ys, rfl, D9, g9, ea, eb, x0, x1, y0, y1, bX, bY⟩ := hM
        refine ⟨.ref pa, rfl, .ref pb, rfl, pa, pb, xs, ys, rfl, ea, eb, x0, by omega, y0, by omega, fun td sd fd H10 etd esd efd k10 => ?_⟩
        have g10 := g9.kp0 k10
        have D10 := D9.kp0 k10
        have ea10 := k10.tp _ _ ea
        have eb10 := k10.tp _ _ eb
        refine ⟨.ref pa, rfl, .ref pb, rfl, pa, pb, xs, ys, rfl, ea10, eb10, x0, by omega, y0, by omega, g10, fun t11 s11 f11 H11 et11 es11 ef11 k11 g11 => ?_⟩
        have p11 := g10.tp k11
        have D11 := D10.kpT g10 k11
        have etd1 := p11 _ _ etd
        have esd1 := p11 _ _ esd
        have efd1 := p11 _ _ efd
        have ea1 := p11 _ _ ea10
        have eb1 := p11 _ _ eb10
        refine ⟨.ref td, rfl, .ref td, rfl, td, _, rfl, .inr (tOf etd1), fun l1 n1 => ?_⟩
        have il1 := D11.ni n1
        have j1 : Kp [] H11 (upd H11 l1 (.lst [.ref sd, .ref fd])) := Kp.new n1
        have e1 : upd H11 l1 (.lst [.ref sd, .ref fd]) l1 = some (.lst [.ref sd, .ref fd]) := upd_same
        generalize upd H11 l1 (.lst [.ref sd, .ref fd]) = G1 at j1 e1 ⊢
        refine ⟨(show (0 : Nat) ≤ sizeLine by decide), fun p2 n2 => ?_⟩
        have j2 : Kp [] G1 (upd G1 p2 (.tup [])) := Kp.new n2
        have e2 : upd G1 p2 (.tup []) p2 = some (.tup []) := upd_same
        generalize upd G1 p2 (.tup []) = G2 at j2 e2 ⊢
        refine ⟨(show (0 : Nat) ≤ sizeLine by decide), fun p3 n3 => ?_⟩
        have ip3 := (D11.kp0 (j1.trans j2)).ni n3
        have j3 : Kp [] G2 (upd G2 p3 (.lst [])) := Kp.new n3
        have e3 : upd G2 p3 (.lst []) p3 = some (.lst []) := upd_same
        generalize upd G2 p3 (.lst []) = G3 at j3 e3 ⊢
        intro p4 n4
        have ip4 := (D11.kp0 ((j1.trans j2).trans j3)).ni n4
        have j4 : Kp [] G3 (upd G3 p4 (.dK [])) := Kp.new n4
        have e4 : upd G3 p4 (.dK []) p4 = some (.dK []) := upd_same
        generalize upd G3 p4 (.dK []) = G4 at j4 e4 ⊢
        refine ⟨.ref td, rfl, (show (1 : Nat) ≤ sizeLine by decide), fun p5 n5 => ?_⟩
        have j5 : Kp [] G4 (upd G4 p5 (.tup [.ref td])) := Kp.new n5
        have e5 : upd G4 p5 (.tup [.ref td]) p5 = some (.tup [.ref td]) := upd_same
        generalize upd G4 p5 (.tup [.ref td]) = G5 at j5 e5 ⊢
        have j15 := (((j1.trans j2).trans j3).trans j4).trans j5
        refine ⟨.ref td, rfl, td, _, 0, .ref sd, rfl, rfl, tOf (j15 td _ (by simp) etd1), atI_nat (j := 0) rfl, (show (1 : Nat) ≤ sizeLine by decide), fun p6 n6 => ?_⟩
        have j6 : Kp [] G5 (upd G5 p6 (.tup [.ref sd])) := Kp.new n6
        have e6 : upd G5 p6 (.tup [.ref sd]) p6 = some (.tup [.ref sd]) := upd_same
        generalize upd G5 p6 (.tup [.ref sd]) = G6 at j6 e6 ⊢
        refine ⟨(show (0 : Nat) ≤ sizeLine by decide), fun p7 n7 => ?_⟩
        have j7 : Kp [] G6 (upd G6 p7 (.tup [])) := Kp.new n7
        have e7 : upd G6 p7 (.tup []) p7 = some (.tup []) := upd_same
        generalize upd G6 p7 (.tup []) = G7 at j7 e7 ⊢
        refine ⟨(show (0 : Nat) ≤ sizeLine by decide), fun p8 n8 => ?_⟩
        have j8 : Kp [] G7 (upd G7 p8 (.tup [])) := Kp.new n8
        have e8 : upd G7 p8 (.tup []) p8 = some (.tup []) := upd_same
        generalize upd G7 p8 (.tup []) = G8 at j8 e8 ⊢
        refine ⟨(show (2 : Nat) ≤ sizeLine by decide), fun p9 n9 => ?_⟩
        have j9 : Kp [] G8 (upd G8 p9 (.tup [.ref p7, .ref p8])) := Kp.new n9
        have e9 : upd G8 p9 (.tup [.ref p7, .ref p8]) p9 = some (.tup [.ref p7, .ref p8]) := upd_same
        generalize upd G8 p9 (.tup [.ref p7, .ref p8]) = G9 at j9 e9 ⊢
        have j69 := (((j6.trans j7).trans j8).trans j9)
        have j19 : Kp [] H11 G9 := j15.trans j69
        have f2 : Kp [] G1 G9 := (((j2.trans j3).trans j4).trans j5).trans j69
        have f3 : Kp [] G2 G9 := ((j3.trans j4).trans j5).trans j69
        have f4 : Kp [] G3 G9 := (j4.trans j5).trans j69
        have f5 : Kp [] G4 G9 := j5.trans j69
        have f7 : Kp [] G6 G9 := (j7.trans j8).trans j9
        have f8 : Kp [] G7 G9 := j8.trans j9
        refine ⟨(show (13 : Nat) ≤ sizeLine by decide), fun S nS => ?_⟩
        have nS' : G9 S = none := nS
        have iS := (D11.kp0 j19).ni nS'
        obtain ⟨L0, hL0⟩ : ∃ L0 : List V, L0 = [.ref t11, .ref td, .ref l1, .non, .int 7, .str (Str.ofString "sums"), .ref p2, .ref p3, .ref p4, .ref p5, .ref p6, .bl true, .ref p9] := ⟨_, rfl⟩
        have jS : Kp [] G9 (upd G9 S (.lst L0)) := Kp.new nS'
        have eS : upd G9 S (.lst L0) S = some (.lst L0) := upd_same
        rw [hL0] at jS eS
        try dsimp only
        generalize upd G9 S (.lst [.ref t11, .ref td, .ref l1, .non, .int 7, .str (Str.ofString "sums"), .ref p2, .ref p3, .ref p4, .ref p5, .ref p6, .bl true, .ref p9]) = GS at jS eS ⊢
        rw [← hL0] at eS
        refine ⟨.ref S, rfl, .inl ⟨rfl, _, lOf eS⟩, (show (2 : Nat) ≤ sizeLine by decide), fun pn nn => ?_⟩
        have jn : Kp [] GS (upd GS pn (.tup [.non, .non])) := Kp.new nn
        have en : upd GS pn (.tup [.non, .non]) pn = some (.tup [.non, .non]) := upd_same
        generalize upd GS pn (.tup [.non, .non]) = GN at jn en ⊢
        have jSn := jS.trans jn
        refine ⟨S, _, _, rfl, rfl, jn S _ (by simp) eS, by rw [hL0]; exact (show (13 : Nat) < sizeLine by decide), ?_⟩
        obtain ⟨M, hM⟩ : ∃ M : List Addr, M = [d, c, S] := ⟨_, rfl⟩
        have hd : d ∈ M := by rw [hM]; simp
        have hc : c ∈ M := by rw [hM]; simp
        have hSM : S ∈ M := by rw [hM]; simp
        have out : ∀ {p : Addr} {o : HO}, p ∉ [d, c] → G9 p = some o → p ∉ M := fun {p o} h1 h2 z => by
          rw [hM] at z
          simp only [List.mem_cons, List.not_mem_nil, or_false] at z h1
          rcases z with z | z | z
          · exact h1 (.inl z)
          · exact h1 (.inr z)
          · rw [z, nS'] at h2; cases h2
        have jAll : Kp [] H11 GN := j19.trans jSn
        have svP : Sv M GN (upd GN S (.lst (L0 ++ [.ref pn]))) := Sv.put hSM (jn S _ (by simp) eS)
        have DN := D11.kp0 jAll
        have gN := g11.kp0 jAll
        have DP : Dl d c (upd GN S (.lst (L0 ++ [.ref pn]))) := DN.up iS
        have sv9 : Sv M G9 (upd GN S (.lst (L0 ++ [.ref pn]))) := (jSn.sv (M := M)).trans svP
        have sv11 : Sv M H11 (upd GN S (.lst (L0 ++ [.ref pn]))) := (jAll.sv (M := M)).trans svP
        have eP : upd GN S (.lst (L0 ++ [.ref pn])) S = some (.lst (L0 ++ [.ref pn])) := upd_same
        have gP : TbG (Ps T) (upd GN S (.lst (L0 ++ [.ref pn]))) := tbg_put gN (jn S _ (by simp) eS)
        have alP : Al M (upd GN S (.lst (L0 ++ [.ref pn]))) := fun m hm e => by
          rw [hM] at hm
          simp only [List.mem_cons, List.not_mem_nil, or_false] at hm
          obtain ⟨_, _, _, h1, h2, _⟩ := DP
          rcases hm with rfl | rfl | rfl
          · rw [h1] at e; cases e
          · rw [h2] at e; cases e
          · rw [eP] at e; cases e
        have enP := svP.2.1 _ _ en
        generalize upd GN S (.lst (L0 ++ [.ref pn])) = HP at svP DP sv9 sv11 eP gP alP enP ⊢
        have eaP := sv11.2.1 _ _ ea1
        have ebP := sv11.2.1 _ _ eb1
        have prP : Pr2 HP td (jsum xs ys) (jfst xs ys) := ⟨sd, fd, sv11.2.1 _ _ etd1, sv11.2.1 _ _ esd1, sv11.2.1 _ _ efd1⟩
        have rws := th_rows (M := M) x0 y0 (by omega) (by omega) bX bY (sv11.2.1 _ _ esd1) (sv11.2.1 _ _ efd1)
        have tdT : Th M HP 2 (.ref td) := th_pr (xs := xs) (ys := ys) (sv11.2.1 _ _ etd1) rws
        have one : ∀ {n : Nat} {v : V}, Th M HP n v → ∀ u ∈ [v], Th M HP n u := fun t u hu => by rw [List.mem_singleton.mp hu]; exact t
        have thP : ∀ v ∈ L0 ++ [V.ref pn], Th M HP 6 v := fun v hv => by
          rw [hL0] at hv
          simp only [List.cons_append, List.nil_append, List.mem_cons, List.not_mem_nil, or_false] at hv
          rcases hv with rfl | rfl | rfl | rfl | rfl | rfl | rfl | rfl | rfl | rfl | rfl | rfl | rfl | rfl
          · exact (th_pr (xs := xs) (ys := ys) (sv11.2.1 _ _ et11) (th_rows (M := M) x0 y0 (by omega) (by omega) bX bY (sv11.2.1 _ _ es11) (sv11.2.1 _ _ ef11))).mono (by omega)
          · exact tdT.mono (by omega)
          · have m := out il1 (f2 _ _ (by simp) e1)
            exact Th.mono (n := 2) (.lst m (sv9.1 _ _ m (f2 _ _ (by simp) e1)) (by simp) fun z hz => by
              simp only [List.mem_cons, List.not_mem_nil, or_false] at hz
              rcases hz with rfl | rfl
              · exact rws.1
              · exact rws.2) (by omega)
          · exact .non
          · exact .int _ (pw_c (by decide))
          · exact .str _
          · exact .tup (sv9.2.1 _ _ (f3 _ _ (by simp) e2)) (by simp) fun z hz => by simp at hz
          · have m := out ip3 (f4 _ _ (by simp) e3)
            exact .lst m (sv9.1 _ _ m (f4 _ _ (by simp) e3)) (by simp) fun z hz => by simp at hz
          · have m := out ip4 (f5 _ _ (by simp) e4)
            exact .dct m (sv9.2.2 _ m (f5 _ _ (by simp) e4))
          · exact Th.mono (n := 3) (.tup (sv9.2.1 _ _ (j69 _ _ (by simp) e5)) (by simp) (one tdT)) (by omega)
          · exact Th.mono (n := 2) (.tup (sv9.2.1 _ _ (f7 _ _ (by simp) e6)) (by simp) (one rws.1)) (by omega)
          · exact .bl _
          · exact Th.mono (n := 2) (.tup (sv9.2.1 _ _ e9) (by simp) fun z hz => by
              simp only [List.mem_cons, List.not_mem_nil, or_false] at hz
              rcases hz with rfl | rfl
              · exact .tup (sv9.2.1 _ _ (f8 _ _ (by simp) e7)) (by simp) fun z hz => by simp at hz
              · exact .tup (sv9.2.1 _ _ (j9 _ _ (by simp) e8)) (by simp) fun z hz => by simp at hz) (by omega)
          · exact Th.mono (n := 1) (.tup enP (by simp) fun z hz => by
              have : z = .non := by simpa using hz
              rw [this]; exact .non) (by omega)
        have lP : (L0 ++ [V.ref pn]).length = 14 := by rw [hL0]; rfl
        refine ⟨10, rfl, by decide, by decide, ?_⟩
        refine for_it walk_range (fun i σ H' => ∃ (y9 y10 y11 : Option V) (vs : List V), σ = [some (.ref a), some (.ref d), y2, y3, y4, some (.ref pa), some (.ref pb), some (.ref td), some (.ref S), y9, y10, y11] ∧ Dl d c H' ∧ TbG (Ps T) H' ∧ Al M H' ∧ Tp HP H' ∧ H' S = some (.lst vs) ∧ vs.length = 14 + i ∧ ∀ v ∈ vs, Th M H' 6 v) ⟨_, _, _, _, rfl, DP, gP, alP, fun _ _ e => e, eP, lP, thP⟩ (fun _ _ _ _ _ => trivial) (fun j x σ Hc Hd hj hp hy => ?_) fun σ Hc hp => ?_
        · obtain ⟨y9, y10, y11, vs, rfl, DC, gC, alC, tpC, eSC, lv, tv⟩ := hp
          obtain ⟨rfl, rfl⟩ := hy
          have eaC := tpC _ _ eaP
          have ebC := tpC _ _ ebP
          have prC : Pr2 Hd td (jsum xs ys) (jfst xs ys) := by
            obtain ⟨s', f', h1, h2, h3⟩ := prP
            exact ⟨s', f', tpC _ _ h1, tpC _ _ h2, tpC _ _ h3⟩
          have tdC : Th M Hd 2 (.ref td) := by
            obtain ⟨s', f', h1, h2, h3⟩ := prC
            exact th_pr (xs := xs) (ys := ys) h1 (th_rows (M := M) x0 y0 (by omega) (by omega) bX bY h2 h3)
          refine ⟨.ref td, rfl, ?_⟩
          refine ⟨fun σ' H' => ∃ (y11 : Option V) (v : V), σ' = [some (.ref a), some (.ref d), y2, y3, y4, some (.ref pa), some (.ref pb), some (.ref td), some (.ref S), some (.int (0 + (j : Nat))), some v, y11] ∧ Th M H' 6 v ∧ Dl d c H' ∧ Kp [d, c] Hd H', ?_, ?_⟩
          · refine ⟨.int (0 + (j : Nat)), rfl, _, _, rfl, rfl, _, rfl, ite2 (fun h3 => ?_) fun h3 => ?_⟩
            · refine ⟨_, rfl, .ref pa, rfl, .ref pb, rfl, .ref td, rfl, M, d, c, pa, pb, td, xs, ys, rfl, DC, hd, hc, alC, eaC, ebC, x0, by omega, y0, by omega, bX, bY, prC, fun v H' tv' D' k' => ?_⟩
              exact ⟨_, v, rfl, tv'.mono (by omega), D', k'⟩
            · refine ⟨_, rfl, d, c, 2, rfl, DC, by decide, by decide, fun r H1 r0 r1 D1 k1 => ⟨1, r, rfl, rfl, _, rfl, by omega, by omega, ?_⟩⟩
              refine for_it walk_range (fun i σ H' => ∃ (y11 : Option V) (v : V), σ = [some (.ref a), some (.ref d), y2, y3, y4, some (.ref pa), some (.ref pb), some (.ref td), some (.ref S), some (.int (0 + (j : Nat))), some v, y11] ∧ Th M H' (2 + i) v ∧ Dl d c H' ∧ Kp [d, c] Hd H') ⟨_, _, rfl, tdC.sv (DC.sv hd hc k1), D1, k1⟩ (fun _ _ _ _ _ => trivial) (fun i x σ He Hf hi hp hy => ?_) fun σ He hp => ?_
              · obtain ⟨y11, v, rfl, t', D', k'⟩ := hp
                obtain ⟨rfl, rfl⟩ := hy
                refine ⟨_, rfl, v, rfl, M, 2 + i, d, c, v, rfl, D', hd, hc, alC.kpD D' k', t', by omega, fun v' H'' t'' D'' k'' => ?_⟩
                exact ⟨_, v', rfl, t'', D'', k'.trans k''⟩
              · obtain ⟨y11, v, rfl, t', D', k'⟩ := hp
                exact ⟨_, v, rfl, t'.mono (by omega), D', k'⟩
          · intro σ' H' hM'
            obtain ⟨y11, v, rfl, t', D', k'⟩ := hM'
            have eS' := k' S _ iS eSC
            refine ⟨.ref S, rfl, .inl ⟨rfl, _, lOf eS'⟩, v, rfl, S, _, _, rfl, rfl, eS', by rw [lv]; exact small (m := 1000) (by omega), ?_⟩
            have svP' : Sv M H' (upd H' S (.lst (vs ++ [v]))) := Sv.put hSM eS'
            have svC : Sv M Hd (upd H' S (.lst (vs ++ [v]))) := (DC.sv hd hc k').trans svP'
            have DU : Dl d c (upd H' S (.lst (vs ++ [v]))) := D'.up iS
            refine ⟨_, _, _, vs ++ [v], rfl, DU, tbg_put (gC.kpD DC k') eS', fun m hm e => ?_, fun a xs h => svC.2.1 _ _ (tpC _ _ h), upd_same, by rw [List.length_append, lv]; rfl, fun u hu => ?_⟩
            · rw [hM] at hm
              simp only [List.mem_cons, List.not_mem_nil, or_false] at hm
              obtain ⟨_, _, _, h1, h2, _⟩ := DU
              rcases hm with rfl | rfl | rfl
              · rw [h1] at e; cases e
              · rw [h2] at e; cases e
              · rw [upd_same] at e; cases e
            · rcases List.mem_append.mp hu with hu | hu
              · exact (tv u hu).sv svC
              · rw [List.mem_singleton.mp hu]
                exact t'.sv svP'
        · obtain ⟨y9, y10, y11, vs, rfl, DC, gC, alC, tpC, eSC, lv, tv⟩ := hp
          refine ⟨.ref S, rfl, .ref td, rfl, (show (1 : Nat) ≤ sizeLine by decide), fun pl nl => ?_⟩
          have w1 : Kp [] Hc (upd Hc pl (.lst [.ref td])) := Kp.new nl
          have f1 : upd Hc pl (.lst [.ref td]) pl = some (.lst [.ref td]) := upd_same
          generalize upd Hc pl (.lst [.ref td]) = W1 at w1 f1 ⊢
          refine ⟨S, pl, vs, [.ref td], rfl, rfl, w1 S _ (by simp) eSC, f1, by rw [lv]; exact le_sl (by simp), fun pW nW => ?_⟩
          have w2 : Kp [] W1 (upd W1 pW (.lst (vs ++ [.ref td]))) := Kp.new nW
          have f2' : upd W1 pW (.lst (vs ++ [.ref td])) pW = some (.lst (vs ++ [.ref td])) := upd_same
          generalize upd W1 pW (.lst (vs ++ [.ref td])) = W2 at w2 f2' ⊢
          have w12 := w1.trans w2
          have gW := gC.kp0 w12
          have DW := DC.kp0 w12
          have tpW : Tp HP W2 := fun a xs h => w12.tp _ _ (tpC a xs h)
          have prW : ∀ H', Tp W2 H' → Pr2 H' td (jsum xs ys) (jfst xs ys) := fun H' tp => by
            obtain ⟨s', f', h1, h2, h3⟩ := prP
            exact ⟨s', f', tp _ _ (tpW _ _ h1), tp _ _ (tpW _ _ h2), tp _ _ (tpW _ _ h3)⟩
          have tdW : ∀ H', Tp W2 H' → Th M H' 2 (.ref td) := fun H' tp => by
            obtain ⟨s', f', h1, h2, h3⟩ := prW H' tp
            exact th_pr (xs := xs) (ys := ys) h1 (th_rows (M := M) x0 y0 (by omega) (by omega) bX bY h2 h3)
          refine ⟨pW, rfl, ⟨_, lOf f2'⟩, ?_⟩
          refine for_it (walk_list (xs := vs ++ [.ref td])) (fun i σ H' => ∃ (y10 : Option V), σ = [some (.ref a), some (.ref d), y2, y3, y4, some (.ref pa), some (.ref pb), some (.ref td), some (.ref S), y9, y10, y11] ∧ Kp (Ps T) W2 H' ∧ TbG (Ps T) H') ⟨_, rfl, Kp.refl _, gW⟩ (fun i σ H' _ hp => by obtain ⟨_, _, k', _⟩ := hp; exact lOf (lstT gW k' f2')) (fun i x σ He Hf hi hp hy => ?_) fun σ He hp => ?_
          · obtain ⟨y10, rfl, k', g'⟩ := hp
            obtain ⟨rfl, hv⟩ := hy
            have tp' : Tp W2 Hf := gW.tp k'
            have tx : Th M Hf 6 x := by
              rcases List.mem_append.mp (List.mem_of_getElem? hv) with hm | hm
              · exact (tv x hm).sv ((w12.sv (M := M)).trans (gW.sv k'))
              · rw [List.mem_singleton.mp hm]
                exact (tdW _ tp').mono (by omega)
            refine ⟨.ref pa, rfl, .ref pb, rfl, x, rfl, .ref td, rfl, M, 6, pa, pb, x, td, xs, ys, rfl, tp' _ _ (tpW _ _ eaP), tp' _ _ (tpW _ _ ebP), x0, by omega, y0, by omega, tx, prW _ tp', g', fun H' k'' g'' => ⟨true, rfl, iteF ?_⟩⟩
            exact ⟨_, rfl, k'.trans k'', g''⟩
          · obtain ⟨y10, rfl, k', g'⟩ := hp
            have tp' : Tp W2 He := gW.tp k'
            refine ⟨.ref pa, rfl, .ref pb, rfl, .ref td, rfl, M, 2, pa, pb, .ref td, xs, ys, rfl, tp' _ _ (tpW _ _ eaP), tp' _ _ (tpW _ _ ebP), x0, by omega, y0, by omega, tdW _ tp', g', fun bb H' hbb k'' g'' => ?_⟩
            have hbt : bb = true := hbb.mpr (by
              obtain ⟨s', f', h1, h2, h3⟩ := prW _ tp'
              exact ⟨td, _, _, rfl, h1, ⟨s', rfl, h2⟩, ⟨f', rfl, h3⟩⟩)
            subst hbt
            refine ⟨_, _, rfl, rfl, _, rfl, iteF ?_⟩
            exact ⟨_, _, _, _, _, _, _, _, _, _, rfl, (DW.kpT gW k').kpT g' k'', g''⟩
    · exact q _
end
end K30

namespace K30
open PySem PySem.Spec PyProof.Rows L2 GenW BT
theorem all_mk {q : Program} {w : World} {K : PySem.W.Frag} {h : Heap} {mg : Str → Option Value} {fa : Addr} (X : K.In h) (G : h.Ns mainGlobals mg) (hfa : mg "law" = some (.ref fa))
    (tabs : ∀ (y : Str) (c P : Addr), ((recsOf q).find? fun e => e.name == y).isSome = true → PySem.W.tabIn K y = some (c, P) → PySem.W.CodeHd h c P ∧ h.get? P = some { cls := .none, data := .fields #[] })
    {f0 : Addr} {od0 an0 : Option Addr} {sl0 : Array (Option Value)} {oc0 kV0 dc0 pm0 cd0 ct0 : Value}
    {f1 : Addr} {od1 an1 : Option Addr} {sl1 : Array (Option Value)} {oc1 kV1 dc1 pm1 cd1 ct1 : Value}
    {f2 : Addr} {od2 an2 : Option Addr} {sl2 : Array (Option Value)} {oc2 kV2 dc2 pm2 cd2 ct2 : Value}
    {f3 : Addr} {od3 an3 : Option Addr} {sl3 : Array (Option Value)} {oc3 kV3 dc3 pm3 cd3 ct3 : Value}
    {f4 : Addr} {od4 an4 : Option Addr} {sl4 : Array (Option Value)} {oc4 kV4 dc4 pm4 cd4 ct4 : Value}
    {f5 : Addr} {od5 an5 : Option Addr} {sl5 : Array (Option Value)} {oc5 kV5 dc5 pm5 cd5 ct5 : Value}
    {f6 : Addr} {od6 an6 : Option Addr} {sl6 : Array (Option Value)} {oc6 kV6 dc6 pm6 cd6 ct6 : Value}
    {f7 : Addr} {od7 an7 : Option Addr} {sl7 : Array (Option Value)} {oc7 kV7 dc7 pm7 cd7 ct7 : Value}
    {f8 : Addr} {od8 an8 : Option Addr} {sl8 : Array (Option Value)} {oc8 kV8 dc8 pm8 cd8 ct8 : Value}
    {f9 : Addr} {od9 an9 : Option Addr} {sl9 : Array (Option Value)} {oc9 kV9 dc9 pm9 cd9 ct9 : Value}
    {f10 : Addr} {od10 an10 : Option Addr} {sl10 : Array (Option Value)} {oc10 kV10 dc10 pm10 cd10 ct10 : Value}
    {f11 : Addr} {od11 an11 : Option Addr} {sl11 : Array (Option Value)} {oc11 kV11 dc11 pm11 cd11 ct11 : Value}
    {f12 : Addr} {od12 an12 : Option Addr} {sl12 : Array (Option Value)} {oc12 kV12 dc12 pm12 cd12 ct12 : Value}
    {f13 : Addr} {od13 an13 : Option Addr} {sl13 : Array (Option Value)} {oc13 kV13 dc13 pm13 cd13 ct13 : Value}
    {f14 : Addr} {od14 an14 : Option Addr} {sl14 : Array (Option Value)} {oc14 kV14 dc14 pm14 cd14 ct14 : Value}
    {f15 : Addr} {od15 an15 : Option Addr} {sl15 : Array (Option Value)} {oc15 kV15 dc15 pm15 cd15 ct15 : Value}
    {f16 : Addr} {od16 an16 : Option Addr} {sl16 : Array (Option Value)} {oc16 kV16 dc16 pm16 cd16 ct16 : Value}
    {f17 : Addr} {od17 an17 : Option Addr} {sl17 : Array (Option Value)} {oc17 kV17 dc17 pm17 cd17 ct17 : Value}
    {f18 : Addr} {od18 an18 : Option Addr} {sl18 : Array (Option Value)} {oc18 kV18 dc18 pm18 cd18 ct18 : Value}
    {f19 : Addr} {od19 an19 : Option Addr} {sl19 : Array (Option Value)} {oc19 kV19 dc19 pm19 cd19 ct19 : Value}
    {f20 : Addr} {od20 an20 : Option Addr} {sl20 : Array (Option Value)} {oc20 kV20 dc20 pm20 cd20 ct20 : Value}
    {f21 : Addr} {od21 an21 : Option Addr} {sl21 : Array (Option Value)} {oc21 kV21 dc21 pm21 cd21 ct21 : Value}
    {f22 : Addr} {od22 an22 : Option Addr} {sl22 : Array (Option Value)} {oc22 kV22 dc22 pm22 cd22 ct22 : Value}
    {f23 : Addr} {od23 an23 : Option Addr} {sl23 : Array (Option Value)} {oc23 kV23 dc23 pm23 cd23 ct23 : Value}
    {f24 : Addr} {od24 an24 : Option Addr} {sl24 : Array (Option Value)} {oc24 kV24 dc24 pm24 cd24 ct24 : Value}
    {f25 : Addr} {od25 an25 : Option Addr} {sl25 : Array (Option Value)} {oc25 kV25 dc25 pm25 cd25 ct25 : Value}
    {f26 : Addr} {od26 an26 : Option Addr} {sl26 : Array (Option Value)} {oc26 kV26 dc26 pm26 cd26 ct26 : Value}
    {f27 : Addr} {od27 an27 : Option Addr} {sl27 : Array (Option Value)} {oc27 kV27 dc27 pm27 cd27 ct27 : Value}
    {c_joined P_joined : Addr}
    {c_is_entries P_is_entries : Addr}
    {c_is_same P_is_same : Addr}
    {c_is_table P_is_table : Addr}
    {c_read_table P_read_table : Addr}
    {c_read_line P_read_line : Addr}
    {c_are_figures P_are_figures : Addr}
    {tk_MOST_FIGURES : Tok}
    (a0 : PySem.W.nsIn K mainGlobals "joined" = some (some (.ref f0))) (l0 : K.lookup f0 = some ⟨oc0, od0, .func (PySem.W.fnOf "joined" "joined" (defArgs s_joined) (defBody s_joined) (defScope s_joined) .none kV0 dc0 pm0 an0 cd0 ct0), sl0⟩) (c0 : PySem.W.codeIn K cd0 "joined" = true) (k0 : PySem.W.keepIn K (.ref f0) = true)
    (a1 : PySem.W.nsIn K mainGlobals "first_least" = some (some (.ref f1))) (l1 : K.lookup f1 = some ⟨oc1, od1, .func (PySem.W.fnOf "first_least" "first_least" (defArgs s_first_least) (defBody s_first_least) (defScope s_first_least) .none kV1 dc1 pm1 an1 cd1 ct1), sl1⟩) (c1 : PySem.W.codeIn K cd1 "first_least" = true) (k1 : PySem.W.keepIn K (.ref f1) = true)
    (a2 : PySem.W.nsIn K mainGlobals "is_number" = some (some (.ref f2))) (l2 : K.lookup f2 = some ⟨oc2, od2, .func (PySem.W.fnOf "is_number" "is_number" (defArgs s_is_number) (defBody s_is_number) (defScope s_is_number) .none kV2 dc2 pm2 an2 cd2 ct2), sl2⟩) (c2 : PySem.W.codeIn K cd2 "is_number" = true) (k2 : PySem.W.keepIn K (.ref f2) = true)
    (a3 : PySem.W.nsIn K mainGlobals "is_entries" = some (some (.ref f3))) (l3 : K.lookup f3 = some ⟨oc3, od3, .func (PySem.W.fnOf "is_entries" "is_entries" (defArgs s_is_entries) (defBody s_is_entries) (defScope s_is_entries) .none kV3 dc3 pm3 an3 cd3 ct3), sl3⟩) (c3 : PySem.W.codeIn K cd3 "is_entries" = true) (k3 : PySem.W.keepIn K (.ref f3) = true)
    (a4 : PySem.W.nsIn K mainGlobals "is_same" = some (some (.ref f4))) (l4 : K.lookup f4 = some ⟨oc4, od4, .func (PySem.W.fnOf "is_same" "is_same" (defArgs s_is_same) (defBody s_is_same) (defScope s_is_same) .none kV4 dc4 pm4 an4 cd4 ct4), sl4⟩) (c4 : PySem.W.codeIn K cd4 "is_same" = true) (k4 : PySem.W.keepIn K (.ref f4) = true)
    (a5 : PySem.W.nsIn K mainGlobals "joined_holds" = some (some (.ref f5))) (l5 : K.lookup f5 = some ⟨oc5, od5, .func (PySem.W.fnOf "joined_holds" "joined_holds" (defArgs s_joined_holds) (defBody s_joined_holds) (defScope s_joined_holds) .none kV5 dc5 pm5 an5 cd5 ct5), sl5⟩) (c5 : PySem.W.codeIn K cd5 "joined_holds" = true) (k5 : PySem.W.keepIn K (.ref f5) = true)
    (a6 : PySem.W.nsIn K mainGlobals "is_table" = some (some (.ref f6))) (l6 : K.lookup f6 = some ⟨oc6, od6, .func (PySem.W.fnOf "is_table" "is_table" (defArgs s_is_table) (defBody s_is_table) (defScope s_is_table) .none kV6 dc6 pm6 an6 cd6 ct6), sl6⟩) (c6 : PySem.W.codeIn K cd6 "is_table" = true) (k6 : PySem.W.keepIn K (.ref f6) = true)
    (a7 : PySem.W.nsIn K mainGlobals "is_line" = some (some (.ref f7))) (l7 : K.lookup f7 = some ⟨oc7, od7, .func (PySem.W.fnOf "is_line" "is_line" (defArgs s_is_line) (defBody s_is_line) (defScope s_is_line) .none kV7 dc7 pm7 an7 cd7 ct7), sl7⟩) (c7 : PySem.W.codeIn K cd7 "is_line" = true) (k7 : PySem.W.keepIn K (.ref f7) = true)
    (a8 : PySem.W.nsIn K mainGlobals "read_table" = some (some (.ref f8))) (l8 : K.lookup f8 = some ⟨oc8, od8, .func (PySem.W.fnOf "read_table" "read_table" (defArgs s_read_table) (defBody s_read_table) (defScope s_read_table) .none kV8 dc8 pm8 an8 cd8 ct8), sl8⟩) (c8 : PySem.W.codeIn K cd8 "read_table" = true) (k8 : PySem.W.keepIn K (.ref f8) = true)
    (a9 : PySem.W.nsIn K mainGlobals "read_line" = some (some (.ref f9))) (l9 : K.lookup f9 = some ⟨oc9, od9, .func (PySem.W.fnOf "read_line" "read_line" (defArgs s_read_line) (defBody s_read_line) (defScope s_read_line) .none kV9 dc9 pm9 an9 cd9 ct9), sl9⟩) (c9 : PySem.W.codeIn K cd9 "read_line" = true) (k9 : PySem.W.keepIn K (.ref f9) = true)
    (a10 : PySem.W.nsIn K mainGlobals "read_entry" = some (some (.ref f10))) (l10 : K.lookup f10 = some ⟨oc10, od10, .func (PySem.W.fnOf "read_entry" "read_entry" (defArgs s_read_entry) (defBody s_read_entry) (defScope s_read_entry) .none kV10 dc10 pm10 an10 cd10 ct10), sl10⟩) (c10 : PySem.W.codeIn K cd10 "read_entry" = true) (k10 : PySem.W.keepIn K (.ref f10) = true)
    (a11 : PySem.W.nsIn K mainGlobals "is_written_number" = some (some (.ref f11))) (l11 : K.lookup f11 = some ⟨oc11, od11, .func (PySem.W.fnOf "is_written_number" "is_written_number" (defArgs s_is_written_number) (defBody s_is_written_number) (defScope s_is_written_number) .none kV11 dc11 pm11 an11 cd11 ct11), sl11⟩) (c11 : PySem.W.codeIn K cd11 "is_written_number" = true) (k11 : PySem.W.keepIn K (.ref f11) = true)
    (a12 : PySem.W.nsIn K mainGlobals "are_figures" = some (some (.ref f12))) (l12 : K.lookup f12 = some ⟨oc12, od12, .func (PySem.W.fnOf "are_figures" "are_figures" (defArgs s_are_figures) (defBody s_are_figures) (defScope s_are_figures) .none kV12 dc12 pm12 an12 cd12 ct12), sl12⟩) (c12 : PySem.W.codeIn K cd12 "are_figures" = true) (k12 : PySem.W.keepIn K (.ref f12) = true)
    (a13 : PySem.W.nsIn K mainGlobals "_law_deck" = some (some (.ref f13))) (l13 : K.lookup f13 = some ⟨oc13, od13, .func (PySem.W.fnOf "_law_deck" "_law_deck" (defArgs s_law_deck) (defBody s_law_deck) (defScope s_law_deck) .none kV13 dc13 pm13 an13 cd13 ct13), sl13⟩) (c13 : PySem.W.codeIn K cd13 "_law_deck" = true) (k13 : PySem.W.keepIn K (.ref f13) = true)
    (a14 : PySem.W.nsIn K mainGlobals "_law_draw" = some (some (.ref f14))) (l14 : K.lookup f14 = some ⟨oc14, od14, .func (PySem.W.fnOf "_law_draw" "_law_draw" (defArgs s_law_draw) (defBody s_law_draw) (defScope s_law_draw) .none kV14 dc14 pm14 an14 cd14 ct14), sl14⟩) (c14 : PySem.W.codeIn K cd14 "_law_draw" = true) (k14 : PySem.W.keepIn K (.ref f14) = true)
    (a15 : PySem.W.nsIn K mainGlobals "_law_number" = some (some (.ref f15))) (l15 : K.lookup f15 = some ⟨oc15, od15, .func (PySem.W.fnOf "_law_number" "_law_number" (defArgs s_law_number) (defBody s_law_number) (defScope s_law_number) .none kV15 dc15 pm15 an15 cd15 ct15), sl15⟩) (c15 : PySem.W.codeIn K cd15 "_law_number" = true) (k15 : PySem.W.keepIn K (.ref f15) = true)
    (a16 : PySem.W.nsIn K mainGlobals "_law_size" = some (some (.ref f16))) (l16 : K.lookup f16 = some ⟨oc16, od16, .func (PySem.W.fnOf "_law_size" "_law_size" (defArgs s_law_size) (defBody s_law_size) (defScope s_law_size) .none kV16 dc16 pm16 an16 cd16 ct16), sl16⟩) (c16 : PySem.W.codeIn K cd16 "_law_size" = true) (k16 : PySem.W.keepIn K (.ref f16) = true)
    (a17 : PySem.W.nsIn K mainGlobals "_law_bent_row" = some (some (.ref f17))) (l17 : K.lookup f17 = some ⟨oc17, od17, .func (PySem.W.fnOf "_law_bent_row" "_law_bent_row" (defArgs s_law_bent_row) (defBody s_law_bent_row) (defScope s_law_bent_row) .none kV17 dc17 pm17 an17 cd17 ct17), sl17⟩) (c17 : PySem.W.codeIn K cd17 "_law_bent_row" = true) (k17 : PySem.W.keepIn K (.ref f17) = true)
    (a18 : PySem.W.nsIn K mainGlobals "_law_row" = some (some (.ref f18))) (l18 : K.lookup f18 = some ⟨oc18, od18, .func (PySem.W.fnOf "_law_row" "_law_row" (defArgs s_law_row) (defBody s_law_row) (defScope s_law_row) .none kV18 dc18 pm18 an18 cd18 ct18), sl18⟩) (c18 : PySem.W.codeIn K cd18 "_law_row" = true) (k18 : PySem.W.keepIn K (.ref f18) = true)
    (a19 : PySem.W.nsIn K mainGlobals "_law_joined" = some (some (.ref f19))) (l19 : K.lookup f19 = some ⟨oc19, od19, .func (PySem.W.fnOf "_law_joined" "_law_joined" (defArgs s_law_joined) (defBody s_law_joined) (defScope s_law_joined) .none kV19 dc19 pm19 an19 cd19 ct19), sl19⟩) (c19 : PySem.W.codeIn K cd19 "_law_joined" = true) (k19 : PySem.W.keepIn K (.ref f19) = true)
    (a20 : PySem.W.nsIn K mainGlobals "_law_same" = some (some (.ref f20))) (l20 : K.lookup f20 = some ⟨oc20, od20, .func (PySem.W.fnOf "_law_same" "_law_same" (defArgs s_law_same) (defBody s_law_same) (defScope s_law_same) .none kV20 dc20 pm20 an20 cd20 ct20), sl20⟩) (c20 : PySem.W.codeIn K cd20 "_law_same" = true) (k20 : PySem.W.keepIn K (.ref f20) = true)
    (a21 : PySem.W.nsIn K mainGlobals "_law_other_places" = some (some (.ref f21))) (l21 : K.lookup f21 = some ⟨oc21, od21, .func (PySem.W.fnOf "_law_other_places" "_law_other_places" (defArgs s_law_other_places) (defBody s_law_other_places) (defScope s_law_other_places) .none kV21 dc21 pm21 an21 cd21 ct21), sl21⟩) (c21 : PySem.W.codeIn K cd21 "_law_other_places" = true) (k21 : PySem.W.keepIn K (.ref f21) = true)
    (a22 : PySem.W.nsIn K mainGlobals "_law_odd" = some (some (.ref f22))) (l22 : K.lookup f22 = some ⟨oc22, od22, .func (PySem.W.fnOf "_law_odd" "_law_odd" (defArgs s_law_odd) (defBody s_law_odd) (defScope s_law_odd) .none kV22 dc22 pm22 an22 cd22 ct22), sl22⟩) (c22 : PySem.W.codeIn K cd22 "_law_odd" = true) (k22 : PySem.W.keepIn K (.ref f22) = true)
    (a23 : PySem.W.nsIn K mainGlobals "_law_part_bent" = some (some (.ref f23))) (l23 : K.lookup f23 = some ⟨oc23, od23, .func (PySem.W.fnOf "_law_part_bent" "_law_part_bent" (defArgs s_law_part_bent) (defBody s_law_part_bent) (defScope s_law_part_bent) .none kV23 dc23 pm23 an23 cd23 ct23), sl23⟩) (c23 : PySem.W.codeIn K cd23 "_law_part_bent" = true) (k23 : PySem.W.keepIn K (.ref f23) = true)
    (a24 : PySem.W.nsIn K mainGlobals "_law_bent" = some (some (.ref f24))) (l24 : K.lookup f24 = some ⟨oc24, od24, .func (PySem.W.fnOf "_law_bent" "_law_bent" (defArgs s_law_bent) (defBody s_law_bent) (defScope s_law_bent) .none kV24 dc24 pm24 an24 cd24 ct24), sl24⟩) (c24 : PySem.W.codeIn K cd24 "_law_bent" = true) (k24 : PySem.W.keepIn K (.ref f24) = true)
    (a25 : PySem.W.nsIn K mainGlobals "_law_told" = some (some (.ref f25))) (l25 : K.lookup f25 = some ⟨oc25, od25, .func (PySem.W.fnOf "_law_told" "_law_told" (defArgs s_law_told) (defBody s_law_told) (defScope s_law_told) .none kV25 dc25 pm25 an25 cd25 ct25), sl25⟩) (c25 : PySem.W.codeIn K cd25 "_law_told" = true) (k25 : PySem.W.keepIn K (.ref f25) = true)
    (a26 : PySem.W.nsIn K mainGlobals "_law_read" = some (some (.ref f26))) (l26 : K.lookup f26 = some ⟨oc26, od26, .func (PySem.W.fnOf "_law_read" "_law_read" (defArgs s_law_read) (defBody s_law_read) (defScope s_law_read) .none kV26 dc26 pm26 an26 cd26 ct26), sl26⟩) (c26 : PySem.W.codeIn K cd26 "_law_read" = true) (k26 : PySem.W.keepIn K (.ref f26) = true)
    (a27 : PySem.W.nsIn K mainGlobals "law" = some (some (.ref f27))) (l27 : K.lookup f27 = some ⟨oc27, od27, .func (PySem.W.fnOf "law" "law" (defArgs s_law) (defBody s_law) (defScope s_law) .none kV27 dc27 pm27 an27 cd27 ct27), sl27⟩) (c27 : PySem.W.codeIn K cd27 "law" = true) (k27 : PySem.W.keepIn K (.ref f27) = true)
    (e_joined : cd0 = .ref c_joined) (t_joined : PySem.W.tabIn K "joined" = some (c_joined, P_joined)) (n_joined : K.lookup P_joined = none)
    (e_is_entries : cd3 = .ref c_is_entries) (t_is_entries : PySem.W.tabIn K "is_entries" = some (c_is_entries, P_is_entries)) (n_is_entries : K.lookup P_is_entries = none)
    (e_is_same : cd4 = .ref c_is_same) (t_is_same : PySem.W.tabIn K "is_same" = some (c_is_same, P_is_same)) (n_is_same : K.lookup P_is_same = none)
    (e_is_table : cd6 = .ref c_is_table) (t_is_table : PySem.W.tabIn K "is_table" = some (c_is_table, P_is_table)) (n_is_table : K.lookup P_is_table = none)
    (e_read_table : cd8 = .ref c_read_table) (t_read_table : PySem.W.tabIn K "read_table" = some (c_read_table, P_read_table)) (n_read_table : K.lookup P_read_table = none)
    (e_read_line : cd9 = .ref c_read_line) (t_read_line : PySem.W.tabIn K "read_line" = some (c_read_line, P_read_line)) (n_read_line : K.lookup P_read_line = none)
    (e_are_figures : cd12 = .ref c_are_figures) (t_are_figures : PySem.W.tabIn K "are_figures" = some (c_are_figures, P_are_figures)) (n_are_figures : K.lookup P_are_figures = none)
    (z_tuple : PySem.W.nsIn K mainGlobals "tuple" = some none)
    (z_enumerate : PySem.W.nsIn K mainGlobals "enumerate" = some none)
    (z_len : PySem.W.nsIn K mainGlobals "len" = some none)
    (z_range : PySem.W.nsIn K mainGlobals "range" = some none)
    (z_list : PySem.W.nsIn K mainGlobals "list" = some none)
    (z_int : PySem.W.nsIn K mainGlobals "int" = some none)
    (z_zip : PySem.W.nsIn K mainGlobals "zip" = some none)
    (z_max : PySem.W.nsIn K mainGlobals "max" = some none)
    (z_min : PySem.W.nsIn K mainGlobals "min" = some none)
    (z_sorted : PySem.W.nsIn K mainGlobals "sorted" = some none)
    (z_all : PySem.W.nsIn K mainGlobals "all" = some none)
    (z_sum : PySem.W.nsIn K mainGlobals "sum" = some none)
    (z_isinstance : PySem.W.nsIn K mainGlobals "isinstance" = some none)
    (z_bool : PySem.W.nsIn K mainGlobals "bool" = some none)
    (z_str : PySem.W.nsIn K mainGlobals "str" = some none)
    (z_dict : PySem.W.nsIn K mainGlobals "dict" = some none)
    (g_MOST_FIGURES : PySem.W.nsIn K mainGlobals "MOST_FIGURES" = some (some (.int 30 tk_MOST_FIGURES)))
    (r_joined : ((recsOf q).find? fun e => e.name == ("joined" : Str)).isSome = true)
    (r_is_entries : ((recsOf q).find? fun e => e.name == ("is_entries" : Str)).isSome = true)
    (r_is_same : ((recsOf q).find? fun e => e.name == ("is_same" : Str)).isSome = true)
    (r_is_table : ((recsOf q).find? fun e => e.name == ("is_table" : Str)).isSome = true)
    (r_read_table : ((recsOf q).find? fun e => e.name == ("read_table" : Str)).isSome = true)
    (r_read_line : ((recsOf q).find? fun e => e.name == ("read_line" : Str)).isSome = true)
    (r_are_figures : ((recsOf q).find? fun e => e.name == ("are_figures" : Str)).isSome = true)
    : LamX.LawAtS PySem.Challenge.rw_bendtables_k30_joined_by_any_hand w K L2.CX0 30 63 "_law_script" mg fa h := by
  have e := hfa.symm.trans (PySem.W.mg_of X G a27)
  cases e
  let T : Txt K mg := { joined := d1_mk X G a0 l0 c0 k0 fun _ _ _ _ _ _ us hl => match us, hl with | [_, _], _ => rfl, first_least := d1_mk X G a1 l1 c1 k1 fun _ _ _ _ _ _ us hl => match us, hl with | [_, _, _], _ => rfl, is_number := d1_mk X G a2 l2 c2 k2 fun _ _ _ _ _ _ us hl => match us, hl with | [_], _ => rfl, is_entries := d1_mk X G a3 l3 c3 k3 fun _ _ _ _ _ _ us hl => match us, hl with | [_], _ => rfl, is_same := d1_mk X G a4 l4 c4 k4 fun _ _ _ _ _ _ us hl => match us, hl with | [_, _], _ => rfl, joined_holds := d1_mk X G a5 l5 c5 k5 fun _ _ _ _ _ _ us hl => match us, hl with | [_, _, _], _ => rfl, is_table := d1_mk X G a6 l6 c6 k6 fun _ _ _ _ _ _ us hl => match us, hl with | [_], _ => rfl, is_line := d1_mk X G a7 l7 c7 k7 fun _ _ _ _ _ _ us hl => match us, hl with | [_], _ => rfl, read_table := d1_mk X G a8 l8 c8 k8 fun _ _ _ _ _ _ us hl => match us, hl with | [_], _ => rfl, read_line := d1_mk X G a9 l9 c9 k9 fun _ _ _ _ _ _ us hl => match us, hl with | [_], _ => rfl, read_entry := d1_mk X G a10 l10 c10 k10 fun _ _ _ _ _ _ us hl => match us, hl with | [_], _ => rfl, is_written_number := d1_mk X G a11 l11 c11 k11 fun _ _ _ _ _ _ us hl => match us, hl with | [_], _ => rfl, are_figures := d1_mk X G a12 l12 c12 k12 fun _ _ _ _ _ _ us hl => match us, hl with | [_], _ => rfl, law_deck := d1_mk X G a13 l13 c13 k13 fun _ _ _ _ _ _ us hl => match us, hl with | [_], _ => rfl, law_draw := d1_mk X G a14 l14 c14 k14 fun _ _ _ _ _ _ us hl => match us, hl with | [_, _], _ => rfl, law_number := d1_mk X G a15 l15 c15 k15 fun _ _ _ _ _ _ us hl => match us, hl with | [_], _ => rfl, law_size := d1_mk X G a16 l16 c16 k16 fun _ _ _ _ _ _ us hl => match us, hl with | [_], _ => rfl, law_bent_row := d1_mk X G a17 l17 c17 k17 fun _ _ _ _ _ _ us hl => match us, hl with | [_, _], _ => rfl, law_row := d1_mk X G a18 l18 c18 k18 fun _ _ _ _ _ _ us hl => match us, hl with | [_, _, _], _ => rfl, law_joined := d1_mk X G a19 l19 c19 k19 fun _ _ _ _ _ _ us hl => match us, hl with | [_, _], _ => rfl, law_same := d1_mk X G a20 l20 c20 k20 fun _ _ _ _ _ _ us hl => match us, hl with | [_, _], _ => rfl, law_other_places := d1_mk X G a21 l21 c21 k21 fun _ _ _ _ _ _ us hl => match us, hl with | [_, _, _, _], _ => rfl, law_odd := d1_mk X G a22 l22 c22 k22 fun _ _ _ _ _ _ us hl => match us, hl with | [_, _], _ => rfl, law_part_bent := d1_mk X G a23 l23 c23 k23 fun _ _ _ _ _ _ us hl => match us, hl with | [_, _], _ => rfl, law_bent := d1_mk X G a24 l24 c24 k24 fun _ _ _ _ _ _ us hl => match us, hl with | [_, _], _ => rfl, law_told := d1_mk X G a25 l25 c25 k25 fun _ _ _ _ _ _ us hl => match us, hl with | [_, _, _, _], _ => rfl, law_read := d1_mk X G a26 l26 c26 k26 fun _ _ _ _ _ _ us hl => match us, hl with | [_], _ => rfl, law := d1_mk X G a27 l27 c27 k27 fun _ _ _ _ _ _ us hl => match us, hl with | [_], _ => rfl, c_joined := c_joined, P_joined := P_joined, h_joined := e_joined, c_is_entries := c_is_entries, P_is_entries := P_is_entries, h_is_entries := e_is_entries, c_is_same := c_is_same, P_is_same := P_is_same, h_is_same := e_is_same, c_is_table := c_is_table, P_is_table := P_is_table, h_is_table := e_is_table, c_read_table := c_read_table, P_read_table := P_read_table, h_read_table := e_read_table, c_read_line := c_read_line, P_read_line := P_read_line, h_read_line := e_read_line, c_are_figures := c_are_figures, P_are_figures := P_are_figures, h_are_figures := e_are_figures, b_tuple := PySem.W.mg_none_of X G z_tuple, b_enumerate := PySem.W.mg_none_of X G z_enumerate, b_len := PySem.W.mg_none_of X G z_len, b_range := PySem.W.mg_none_of X G z_range, b_list := PySem.W.mg_none_of X G z_list, b_int := PySem.W.mg_none_of X G z_int, b_zip := PySem.W.mg_none_of X G z_zip, b_max := PySem.W.mg_none_of X G z_max, b_min := PySem.W.mg_none_of X G z_min, b_sorted := PySem.W.mg_none_of X G z_sorted, b_all := PySem.W.mg_none_of X G z_all, b_sum := PySem.W.mg_none_of X G z_sum, b_isinstance := PySem.W.mg_none_of X G z_isinstance, b_bool := PySem.W.mg_none_of X G z_bool, b_str := PySem.W.mg_none_of X G z_str, b_dict := PySem.W.mg_none_of X G z_dict, m_MOST_FIGURES := ⟨_, PySem.W.mg_of X G g_MOST_FIGURES⟩ }
  refine ⟨T.law.fd, [(c_joined, P_joined), (c_is_entries, P_is_entries), (c_is_same, P_is_same), (c_is_table, P_is_table), (c_read_table, P_read_table), (c_read_line, P_read_line), (c_are_figures, P_are_figures)], spLaw T, fun p hp => ?_, fun p hp => ?_, fun p hp => ?_, fun s u => .of_eq rfl, fun H a ns hl hb hH hS => ?_, fun base _ _ TB => ok_law T ?_⟩
  · rcases List.mem_cons.mp hp with z | hp
    · rw [z]; exact (tabs _ _ _ r_joined t_joined).2
    rcases List.mem_cons.mp hp with z | hp
    · rw [z]; exact (tabs _ _ _ r_is_entries t_is_entries).2
    rcases List.mem_cons.mp hp with z | hp
    · rw [z]; exact (tabs _ _ _ r_is_same t_is_same).2
    rcases List.mem_cons.mp hp with z | hp
    · rw [z]; exact (tabs _ _ _ r_is_table t_is_table).2
    rcases List.mem_cons.mp hp with z | hp
    · rw [z]; exact (tabs _ _ _ r_read_table t_read_table).2
    rcases List.mem_cons.mp hp with z | hp
    · rw [z]; exact (tabs _ _ _ r_read_line t_read_line).2
    rw [List.mem_singleton.mp hp]; exact (tabs _ _ _ r_are_figures t_are_figures).2
  · rcases List.mem_cons.mp hp with z | hp
    · rw [z]; exact n_joined
    rcases List.mem_cons.mp hp with z | hp
    · rw [z]; exact n_is_entries
    rcases List.mem_cons.mp hp with z | hp
    · rw [z]; exact n_is_same
    rcases List.mem_cons.mp hp with z | hp
    · rw [z]; exact n_is_table
    rcases List.mem_cons.mp hp with z | hp
    · rw [z]; exact n_read_table
    rcases List.mem_cons.mp hp with z | hp
    · rw [z]; exact n_read_line
    rw [List.mem_singleton.mp hp]; exact n_are_figures
  · rcases List.mem_cons.mp hp with z | hp
    · rw [z]; exact (tabs _ _ _ r_joined t_joined).1
    rcases List.mem_cons.mp hp with z | hp
    · rw [z]; exact (tabs _ _ _ r_is_entries t_is_entries).1
    rcases List.mem_cons.mp hp with z | hp
    · rw [z]; exact (tabs _ _ _ r_is_same t_is_same).1
    rcases List.mem_cons.mp hp with z | hp
    · rw [z]; exact (tabs _ _ _ r_is_table t_is_table).1
    rcases List.mem_cons.mp hp with z | hp
    · rw [z]; exact (tabs _ _ _ r_read_table t_read_table).1
    rcases List.mem_cons.mp hp with z | hp
    · rw [z]; exact (tabs _ _ _ r_read_line t_read_line).1
    rw [List.mem_singleton.mp hp]; exact (tabs _ _ _ r_are_figures t_are_figures).1
  · exact law_start T H a ns hl hb hH hS
  · exact ⟨toB (TB (c_joined, P_joined) (by simp)), toB (TB (c_is_entries, P_is_entries) (by simp)), toB (TB (c_is_same, P_is_same) (by simp)), toB (TB (c_is_table, P_is_table) (by simp)), toB (TB (c_read_table, P_read_table) (by simp)), toB (TB (c_read_line, P_read_line) (by simp)), toB (TB (c_are_figures, P_are_figures) (by simp))⟩
end K30
open PySem PySem.W PyProof.Rows
set_option maxHeartbeats 0 in
theorem PySem.Challenge.cw_bendtables_k30_joined_by_any_hand_holds : PySem.Challenge.rw_bendtables_k30_joined_by_any_hand.Holds := by
  w_on; o_law; k_head; (case hw => w_witness2)
  k_fill
  refine BT.walk_tabs (l := PySem.Challenge.rw_bendtables_k30_joined_by_any_hand) (n := 63) (k := 30) (x := "_law_script") (CX := fun _ => L2.CX0) rfl (by decide) rfl ⟨rfl, by decide, by decide⟩ (fun w h Y => PySem.W.kIn_of Y) ?F (fun _ _ _ _ _ h => h)
  case F =>
    intro w mg fa h Yh KX G hmg tabs
    refine' K30.all_mk KX G hmg tabs ?a0 ?l0 ?c0 ?k0 ?a1 ?l1 ?c1 ?k1 ?a2 ?l2 ?c2 ?k2 ?a3 ?l3 ?c3 ?k3 ?a4 ?l4 ?c4 ?k4 ?a5 ?l5 ?c5 ?k5 ?a6 ?l6 ?c6 ?k6 ?a7 ?l7 ?c7 ?k7 ?a8 ?l8 ?c8 ?k8 ?a9 ?l9 ?c9 ?k9 ?a10 ?l10 ?c10 ?k10 ?a11 ?l11 ?c11 ?k11 ?a12 ?l12 ?c12 ?k12 ?a13 ?l13 ?c13 ?k13 ?a14 ?l14 ?c14 ?k14 ?a15 ?l15 ?c15 ?k15 ?a16 ?l16 ?c16 ?k16 ?a17 ?l17 ?c17 ?k17 ?a18 ?l18 ?c18 ?k18 ?a19 ?l19 ?c19 ?k19 ?a20 ?l20 ?c20 ?k20 ?a21 ?l21 ?c21 ?k21 ?a22 ?l22 ?c22 ?k22 ?a23 ?l23 ?c23 ?k23 ?a24 ?l24 ?c24 ?k24 ?a25 ?l25 ?c25 ?k25 ?a26 ?l26 ?c26 ?k26 ?a27 ?l27 ?c27 ?k27 ?e_joined ?t_joined ?n_joined ?e_is_entries ?t_is_entries ?n_is_entries ?e_is_same ?t_is_same ?n_is_same ?e_is_table ?t_is_table ?n_is_table ?e_read_table ?t_read_table ?n_read_table ?e_read_line ?t_read_line ?n_read_line ?e_are_figures ?t_are_figures ?n_are_figures ?z_tuple ?z_enumerate ?z_len ?z_range ?z_list ?z_int ?z_zip ?z_max ?z_min ?z_sorted ?z_all ?z_sum ?z_isinstance ?z_bool ?z_str ?z_dict ?g_MOST_FIGURES ?r_joined ?r_is_entries ?r_is_same ?r_is_table ?r_read_table ?r_read_line ?r_are_figures
    (case a0 => k_is); (case l0 => k_is); (case c0 => k_is); (case k0 => k_is); (case a1 => k_is); (case l1 => k_is); (case c1 => k_is); (case k1 => k_is); (case a2 => k_is); (case l2 => k_is); (case c2 => k_is); (case k2 => k_is); (case a3 => k_is); (case l3 => k_is); (case c3 => k_is); (case k3 => k_is); (case a4 => k_is); (case l4 => k_is); (case c4 => k_is); (case k4 => k_is); (case a5 => k_is); (case l5 => k_is); (case c5 => k_is); (case k5 => k_is); (case a6 => k_is); (case l6 => k_is); (case c6 => k_is); (case k6 => k_is); (case a7 => k_is); (case l7 => k_is); (case c7 => k_is); (case k7 => k_is); (case a8 => k_is); (case l8 => k_is); (case c8 => k_is); (case k8 => k_is); (case a9 => k_is); (case l9 => k_is); (case c9 => k_is); (case k9 => k_is); (case a10 => k_is); (case l10 => k_is); (case c10 => k_is); (case k10 => k_is); (case a11 => k_is); (case l11 => k_is); (case c11 => k_is); (case k11 => k_is); (case a12 => k_is); (case l12 => k_is); (case c12 => k_is); (case k12 => k_is); (case a13 => k_is); (case l13 => k_is); (case c13 => k_is); (case k13 => k_is); (case a14 => k_is); (case l14 => k_is); (case c14 => k_is); (case k14 => k_is); (case a15 => k_is); (case l15 => k_is); (case c15 => k_is); (case k15 => k_is); (case a16 => k_is); (case l16 => k_is); (case c16 => k_is); (case k16 => k_is); (case a17 => k_is); (case l17 => k_is); (case c17 => k_is); (case k17 => k_is); (case a18 => k_is); (case l18 => k_is); (case c18 => k_is); (case k18 => k_is); (case a19 => k_is); (case l19 => k_is); (case c19 => k_is); (case k19 => k_is); (case a20 => k_is); (case l20 => k_is); (case c20 => k_is); (case k20 => k_is); (case a21 => k_is); (case l21 => k_is); (case c21 => k_is); (case k21 => k_is); (case a22 => k_is); (case l22 => k_is); (case c22 => k_is); (case k22 => k_is); (case a23 => k_is); (case l23 => k_is); (case c23 => k_is); (case k23 => k_is); (case a24 => k_is); (case l24 => k_is); (case c24 => k_is); (case k24 => k_is); (case a25 => k_is); (case l25 => k_is); (case c25 => k_is); (case k25 => k_is); (case a26 => k_is); (case l26 => k_is); (case c26 => k_is); (case k26 => k_is); (case a27 => k_is); (case l27 => k_is); (case c27 => k_is); (case k27 => k_is); (case e_joined => first | rfl | k_is); (case t_joined => first | rfl | k_is); (case n_joined => first | rfl | k_is); (case e_is_entries => first | rfl | k_is); (case t_is_entries => first | rfl | k_is); (case n_is_entries => first | rfl | k_is); (case e_is_same => first | rfl | k_is); (case t_is_same => first | rfl | k_is); (case n_is_same => first | rfl | k_is); (case e_is_table => first | rfl | k_is); (case t_is_table => first | rfl | k_is); (case n_is_table => first | rfl | k_is); (case e_read_table => first | rfl | k_is); (case t_read_table => first | rfl | k_is); (case n_read_table => first | rfl | k_is); (case e_read_line => first | rfl | k_is); (case t_read_line => first | rfl | k_is); (case n_read_line => first | rfl | k_is); (case e_are_figures => first | rfl | k_is); (case t_are_figures => first | rfl | k_is); (case n_are_figures => first | rfl | k_is); (case z_tuple => k_is); (case z_enumerate => k_is); (case z_len => k_is); (case z_range => k_is); (case z_list => k_is); (case z_int => k_is); (case z_zip => k_is); (case z_max => k_is); (case z_min => k_is); (case z_sorted => k_is); (case z_all => k_is); (case z_sum => k_is); (case z_isinstance => k_is); (case z_bool => k_is); (case z_str => k_is); (case z_dict => k_is); (case g_MOST_FIGURES => k_is); (case r_joined => first | rfl | decide +kernel); (case r_is_entries => first | rfl | decide +kernel); (case r_is_same => first | rfl | decide +kernel); (case r_is_table => first | rfl | decide +kernel); (case r_read_table => first | rfl | decide +kernel); (case r_read_line => first | rfl | decide +kernel); (case r_are_figures => first | rfl | decide +kernel)
