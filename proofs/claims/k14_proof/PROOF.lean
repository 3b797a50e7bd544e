import PyProof.Rows.All
import Wide.All
import OpenK.AllK
import Wide.FinOn
import HandS.ForMost
import HandS.Wide
import HandS.Star
import HandS.Property
import HandS.IsInst
import HandS.SortInts
import HandS.Flow
import HandS.ForExc
import HandS.ExcInit
import HandS.ExcValue
import HandS.TryMany
import HandS.ExcIs
import HandS.ExcField
import KE.KExcIs
import HandS.Conv
import PySem.Challenge.RW_claimclasses_k14_errors_with_their_parts
import HandS.EndBits
set_option Elab.async false
set_option linter.all false
set_option maxRecDepth 100000
set_option autoImplicit false
/-! DL: programs by their data. A value is a tree; what a def made and nobody changes any more is the grown part F of the heap H. -/
namespace DL
open PySem L2

/-! ### data -/
inductive D where
  | non | bl (b : Bool) | int (i : Int) | str (x : Str) | ty (n : String) | ref (a : Addr)
  | lst (xs : List D) | tup (xs : List D) | ins (C : Addr) (fs : List (Str × D))
  /-- an exception at a, of the class at C, its dict at d -/
  | exc (a C d : Addr) (fs : List (Str × D))
  /-- a list whose address is known -/
  | nam (p : Addr) (xs : List D)
  /-- an error that is held: one without parts, one with one part -/
  | er0 (C : Addr) | er1 (C : Addr) (f : Str) (d : D)

mutual
/-- v stands for d, all of it in F -/
inductive Is (K : PySem.W.Frag) (F : Hp) : V → D → Prop
  | non : Is K F .non .non
  | bl (b : Bool) : Is K F (.bl b) (.bl b)
  | int (i : Int) : Is K F (.int i) (.int i)
  | str (x : Str) : Is K F (.str x) (.str x)
  | ty (n : String) : Is K F (.ty n) (.ty n)
  | ref (a : Addr) : Is K F (.ref a) (.ref a)
  | lst {p : Addr} {xs : List V} {ds : List D} : F p = some (.lst xs) → IsAll K F xs ds → Is K F (.ref p) (.lst ds)
  | tup {p : Addr} {xs : List V} {ds : List D} : F p = some (.tup xs) → IsAll K F xs ds → Is K F (.ref p) (.tup ds)
  | ins {a dx C : Addr} {gs : List (Str × V)} {fs : List (Str × D)} : F a = some (.ins C dx gs) → gs.map (·.1) = fs.map (·.1) → IsAll K F (gs.map (·.2)) (fs.map (·.2)) → Is K F (.ref a) (.ins C fs)
  | exc {a dx C : Addr} {gs : List (Str × V)} {fs : List (Str × D)} : F dx = some (.xd gs) → gs.map (·.1) = fs.map (·.1) → IsAll K F (gs.map (·.2)) (fs.map (·.2)) → Is K F (.ref a) (.exc a C dx fs)
  | nam {p : Addr} {xs : List V} {ds : List D} : F p = some (.lst xs) → IsAll K F xs ds → Is K F (.ref p) (.nam p ds)
  | er0 {a C : Addr} : F a = some (ExO (.ref C) a) → Is K F (.ref a) (.er0 C)
  | er1 {a dx C : Addr} {f : Str} {v : V} {d : D} : F a = some (exo a C (some dx)) → F dx = some (exd dx [(f, v)]) → Is K F v d → Is K F (.ref a) (.er1 C f d)
inductive IsAll (K : PySem.W.Frag) (F : Hp) : List V → List D → Prop
  | nil : IsAll K F [] []
  | cons {v : V} {vs : List V} {d : D} {ds : List D} : Is K F v d → IsAll K F vs ds → IsAll K F (v :: vs) (d :: ds)
end

section
variable {K : PySem.W.Frag} {F F' F2 H H' H2 : Hp} {v : V} {d : D} {vs ws : List V} {ds es : List D}
theorem same_sqT {a : Addr} {xs : List V} (e : Same F F') (h : SqT K F a xs) : SqT K F' a xs := by
  rcases h with (h | ⟨o, h⟩) | h
  · exact .inl (.inl (e _ _ h))
  · exact .inl (.inr ⟨o, e _ _ h⟩)
  · exact .inr h
mutual
theorem Is.mono (s : Same F F') : ∀ {v : V} {d : D}, Is K F v d → Is K F' v d
  | _, _, .non => .non
  | _, _, .bl b => .bl b
  | _, _, .int i => .int i
  | _, _, .str x => .str x
  | _, _, .ty n => .ty n
  | _, _, .ref a => .ref a
  | _, _, .lst h a => .lst (s _ _ h) (IsAll.mono s a)
  | _, _, .tup h a => .tup (s _ _ h) (IsAll.mono s a)
  | _, _, .ins h e a => .ins (s _ _ h) e (IsAll.mono s a)
  | _, _, .nam h a => .nam (s _ _ h) (IsAll.mono s a)
  | _, _, .exc h e a => .exc (s _ _ h) e (IsAll.mono s a)
  | _, _, .er0 h => .er0 (s _ _ h)
  | _, _, .er1 h e a => .er1 (s _ _ h) (s _ _ e) (Is.mono s a)
theorem IsAll.mono (s : Same F F') : ∀ {vs : List V} {ds : List D}, IsAll K F vs ds → IsAll K F' vs ds
  | _, _, .nil => .nil
  | _, _, .cons h t => .cons (Is.mono s h) (IsAll.mono s t)
end
theorem IsAll.length : ∀ {vs : List V} {ds : List D}, IsAll K F vs ds → vs.length = ds.length
  | _, _, .nil => rfl
  | _, _, .cons _ t => congrArg (· + 1) t.length
theorem IsAll.get : ∀ {vs : List V} {ds : List D} {i : Nat} {d : D}, IsAll K F vs ds → ds[i]? = some d → ∃ v, vs[i]? = some v ∧ Is K F v d
  | _, _, _, _, .nil, e => by simp at e
  | _, _, 0, _, .cons h _, e => by simp at e; subst e; exact ⟨_, rfl, h⟩
  | _, _, i + 1, _, .cons _ t, e => by
    obtain ⟨v, h1, h2⟩ := IsAll.get (i := i) t (by simpa using e)
    exact ⟨v, by simpa using h1, h2⟩
theorem IsAll.getV : ∀ {vs : List V} {ds : List D} {i : Nat} {v : V}, IsAll K F vs ds → vs[i]? = some v → ∃ d, ds[i]? = some d ∧ Is K F v d
  | _, _, _, _, .nil, e => by simp at e
  | _, _, 0, _, .cons h _, e => by simp at e; subst e; exact ⟨_, rfl, h⟩
  | _, _, i + 1, _, .cons _ t, e => by
    obtain ⟨d, h1, h2⟩ := IsAll.getV (i := i) t (by simpa using e)
    exact ⟨d, by simpa using h1, h2⟩
theorem IsAll.append : ∀ {vs : List V} {ds : List D}, IsAll K F vs ds → IsAll K F ws es → IsAll K F (vs ++ ws) (ds ++ es)
  | _, _, .nil, b => b
  | _, _, .cons h t, b => .cons h (t.append b)
theorem IsAll.take : ∀ {vs : List V} {ds : List D} (n : Nat), IsAll K F vs ds → IsAll K F (vs.take n) (ds.take n)
  | _, _, 0, _ => .nil
  | _, _, _ + 1, .nil => .nil
  | _, _, n + 1, .cons h t => .cons h (t.take n)
theorem IsAll.drop : ∀ {vs : List V} {ds : List D} (n : Nat), IsAll K F vs ds → IsAll K F (vs.drop n) (ds.drop n)
  | _, _, 0, r => r
  | _, _, _ + 1, .nil => .nil
  | _, _, n + 1, .cons _ t => t.drop n
theorem IsAll.set (h : Is K F v d) : ∀ {vs : List V} {ds : List D} (i : Nat), IsAll K F vs ds → IsAll K F (vs.set i v) (ds.set i d)
  | _, _, _, .nil => .nil
  | _, _, 0, .cons _ t => .cons h t
  | _, _, i + 1, .cons q t => .cons q (t.set h i)
theorem IsAll.eraseIdx : ∀ {vs : List V} {ds : List D} (i : Nat), IsAll K F vs ds → IsAll K F (vs.eraseIdx i) (ds.eraseIdx i)
  | _, _, _, .nil => .nil
  | _, _, 0, .cons _ t => t
  | _, _, i + 1, .cons q t => .cons q (t.eraseIdx i)
theorem isAll_ints : ∀ (ns : List Int), IsAll K F (ns.map V.int) (ns.map D.int)
  | [] => .nil
  | n :: ns => .cons (.int n) (isAll_ints ns)
theorem IsAll.ints : ∀ {vs : List V} {ns : List Int}, IsAll K F vs (ns.map D.int) → vs = ns.map V.int
  | _, [], .nil => rfl
  | _, n :: ns, .cons h t => by cases h; rw [List.map_cons, t.ints]
theorem IsAll.bls : ∀ {vs : List V} {bs : List Bool}, IsAll K F vs (bs.map D.bl) → vs = bs.map V.bl
  | _, [], .nil => rfl
  | _, n :: ns, .cons h t => by cases h; rw [List.map_cons, t.bls]

/-- data without an object: its value by itself -/
def flat : D → Option V
  | .non => some .non | .bl b => some (.bl b) | .int i => some (.int i) | .str x => some (.str x) | .ty n => some (.ty n) | .ref a => some (.ref a) | _ => none
theorem Is.flat (h : Is K F v d) {w : V} (e : DL.flat d = some w) : v = w := by
  cases h <;> first | cases e | skip
  all_goals rfl
theorem is_flat {w : V} (e : DL.flat d = some w) : Is K F w d := by
  cases d <;> first | cases e | skip
  · exact .non
  · exact .bl _
  · exact .int _
  · exact .str _
  · exact .ty _
  · exact .ref _

/-! ### how a heap grows. m: the bag and the list that it draws from, where there is one -/
structure Mem where
  b : Addr
  l : Addr
  ns : List Int
instance : CoeOut Mem Addr := ⟨Mem.b⟩
inductive Touch : Option Mem → Addr → Prop
  | b (c : Mem) : Touch (some c) c.b
  | l (c : Mem) : Touch (some c) c.l
/-- the bag of draws stands at c.b -/
def BagOk (K : PySem.W.Frag) (H : Hp) (c : Mem) : Prop := ∃ (i : Nat) (q g n : Int), c.b ≠ c.l ∧ H c.b = some (.lst [.ref c.l, .int (i : Int), .int q, .int g, .int n]) ∧ H c.l = some (.lst (c.ns.map V.int)) ∧ 0 ≤ q ∧ q.natAbs < 2 ^ 1100000 ∧ ∀ z ∈ c.ns, z.natAbs < 2 ^ 1090000
structure Good (K : PySem.W.Frag) (m : Option Mem) (F H : Hp) : Prop where
  sub : Same F H
  bag : ∀ c, m = some c → (F c.b = none ∧ F c.l = none) ∧ BagOk K H c
structure Step (K : PySem.W.Frag) (m : Option Mem) (F H F' H' : Hp) : Prop where
  fs : Same F F'
  good : Good K m F' H'
  new : ∀ a, F a = none → F' a ≠ none → H a = none
  keep : ∀ a o, ¬ Touch m a → H a = some o → H' a = some o
theorem BagOk.some {c : Mem} (h : BagOk K H c) : (∃ o, H c.b = Option.some o) ∧ ∃ o, H c.l = Option.some o := by
  obtain ⟨_, _, _, _, _, e, e2, _⟩ := h
  exact ⟨⟨_, e⟩, _, e2⟩
theorem BagOk.mono {c : Mem} (h : BagOk K H c) (e : H' c.b = H c.b) (e2 : H' c.l = H c.l) : BagOk K H' c := by
  obtain ⟨i, q, g, n, h0, h1, h2, h3⟩ := h
  exact ⟨i, q, g, n, h0, e.trans h1, e2.trans h2, h3⟩
variable {m : Option Mem}
theorem BagOk.list {c : Mem} (h : BagOk K H c) : H c.l = Option.some (.lst (c.ns.map V.int)) := by
  obtain ⟨i, q, g, n, h0, h1, h2, h3⟩ := h
  exact h2
theorem Good.touch (g : Good K m F H) {p : Addr} (z : Touch m p) : ∃ o, H p = some o := by
  cases z with
  | b c => exact (g.bag c rfl).2.some.1
  | l c => exact (g.bag c rfl).2.some.2
theorem Good.touchL (g : Good K m F H) {p : Addr} (z : Touch m p) : ∃ xs, H p = some (.lst xs) := by
  cases z with
  | b c => obtain ⟨_, _, _, _, _, _, e, _⟩ := g.bag c rfl; exact ⟨_, e⟩
  | l c => exact ⟨_, (g.bag c rfl).2.list⟩
theorem Good.notm (g : Good K m F H) {p : Addr} (hp : H p = none) : ¬ Touch m p := fun z => by
  obtain ⟨u, hu⟩ := g.touch z
  rw [hu] at hp; cases hp
theorem Step.refl (g : Good K m F H) : Step K m F H F H := ⟨Same.refl F, g, fun a h1 h2 => absurd h1 h2, fun _ _ _ h => h⟩
theorem Step.trans (a : Step K m F H F' H') (b : Step K m F' H' F2 H2) : Step K m F H F2 H2 := by
  refine ⟨a.fs.trans b.fs, b.good, fun x h1 h2 => ?_, fun x o hx h => b.keep x o hx (a.keep x o hx h)⟩
  cases e : F' x with
  | some o => exact a.new x h1 (by rw [e]; exact fun z => nomatch z)
  | none =>
    have e2 := b.new x e h2
    cases e3 : H x with
    | none => rfl
    | some o =>
      by_cases hm : Touch m x
      · obtain ⟨u, hu⟩ := a.good.touch hm
        rw [hu] at e2; cases e2
      · rw [a.keep x o hm e3] at e2; cases e2
/-- a new object that stays as it is -/
theorem Good.grow (g : Good K m F H) {p : Addr} {o : HO} (hp : H p = none) : Step K m F H (upd F p o) (upd H p o) := by
  have hF : F p = none := by
    cases e : F p with
    | none => rfl
    | some u => rw [g.sub p u e] at hp; cases hp
  refine ⟨fun a u e => ?_, ⟨fun a u e => ?_, fun c hc => ?_⟩, fun a h1 h2 => ?_, fun a u hm e => ?_⟩
  · rw [upd_ne (ne_of_none e hF)]; exact e
  · by_cases ha : a = p
    · subst ha; rw [upd_same] at e ⊢; exact e
    · rw [upd_ne ha] at e ⊢; exact g.sub a u e
  · obtain ⟨h1, h2⟩ := g.bag c hc
    obtain ⟨⟨u, hu⟩, u2, hu2⟩ := h2.some
    have hbp : c.b ≠ p := ne_of_none hu hp
    exact ⟨⟨by rw [upd_ne hbp]; exact h1.1, by rw [upd_ne (ne_of_none hu2 hp)]; exact h1.2⟩, h2.mono (upd_ne hbp) (upd_ne (ne_of_none hu2 hp))⟩
  · by_cases ha : a = p
    · subst ha; exact hp
    · rw [upd_ne ha] at h2; exact absurd h1 h2
  · rw [upd_ne (ne_of_none e hp)]; exact e
/-- a new object that is not in F yet -/
theorem Good.fresh (g : Good K m F H) {p : Addr} {o : HO} (hp : H p = none) : Step K m F H F (upd H p o) := by
  refine ⟨Same.refl F, ⟨fun a u e => ?_, fun c hc => ?_⟩, fun a h1 h2 => absurd h1 h2, fun a u hm e => ?_⟩
  · have := g.sub a u e
    rw [upd_ne (ne_of_none this hp)]; exact this
  · obtain ⟨h1, h2⟩ := g.bag c hc
    obtain ⟨⟨u, hu⟩, u2, hu2⟩ := h2.some
    exact ⟨h1, h2.mono (upd_ne (ne_of_none hu hp)) (upd_ne (ne_of_none hu2 hp))⟩
  · rw [upd_ne (ne_of_none e hp)]; exact e
/-- an object that is not in F changes -/
theorem Good.mut (g : Good K m F H) {p : Addr} {o : HO} (hp : F p = none) (hm : ¬ Touch m p) : Good K m F (upd H p o) := by
  refine ⟨fun a u e => ?_, fun c hc => ?_⟩
  · rw [upd_ne (ne_of_none e hp)]; exact g.sub a u e
  · obtain ⟨h1, h2⟩ := g.bag c hc
    subst hc
    exact ⟨h1, h2.mono (upd_ne fun z => hm (by rw [← z]; exact .b c)) (upd_ne fun z => hm (by rw [← z]; exact .l c))⟩
/-- an object that is in H and not in F comes into F -/
theorem Good.freeze (g : Good K m F H) {p : Addr} {o : HO} (hp : F p = none) (hm : ¬ Touch m p) (h : H p = some o) : Good K m (upd F p o) H := by
  have s : Same F (upd F p o) := fun a u e => by rw [upd_ne (ne_of_none e hp)]; exact e
  refine ⟨fun a u e => ?_, fun c hc => ?_⟩
  · by_cases ha : a = p
    · subst ha; rw [upd_same] at e; rw [h]; exact e
    · rw [upd_ne ha] at e; exact g.sub a u e
  · obtain ⟨h1, h2⟩ := g.bag c hc
    subst hc
    have hbp : c.b ≠ p := fun z => hm (by rw [← z]; exact .b c)
    have hlp : c.l ≠ p := fun z => hm (by rw [← z]; exact .l c)
    exact ⟨⟨by rw [upd_ne hbp]; exact h1.1, by rw [upd_ne hlp]; exact h1.2⟩, h2⟩
theorem same_upd {p : Addr} {o : HO} (hp : F p = none) : Same F (upd F p o) := fun a u e => by rw [upd_ne (ne_of_none e hp)]; exact e
/-- without a bag nothing changes: such a step is one anywhere -/
theorem Step.any (s : Step K none F H F' H') (g : Good K m F H) : Step K m F H F' H' := by
  refine ⟨s.fs, ⟨s.good.sub, fun c hc => ?_⟩, s.new, fun a o _ h => s.keep a o (fun z => nomatch z) h⟩
  obtain ⟨h1, h2⟩ := g.bag c hc
  obtain ⟨⟨o, ho⟩, o2, ho2⟩ := h2.some
  refine ⟨⟨?_, ?_⟩, h2.mono ((s.keep c.b o (fun z => nomatch z) ho).trans ho.symm) ((s.keep c.l o2 (fun z => nomatch z) ho2).trans ho2.symm)⟩
  · cases e : F' c.b with
    | none => rfl
    | some u => exact absurd (s.new c.b h1.1 (by rw [e]; exact fun z => nomatch z)) (by rw [ho]; exact fun z => nomatch z)
  · cases e : F' c.l with
    | none => rfl
    | some u => exact absurd (s.new c.l h1.2 (by rw [e]; exact fun z => nomatch z)) (by rw [ho2]; exact fun z => nomatch z)
theorem Good.any (g : Good K m F H) : Good K none F H := ⟨g.sub, fun _ z => nomatch z⟩

/-! ### the slots by their data -/
/-- what may still be changed: a list, an instance that is being made, a dict with int and text keys -/
inductive Cel where
  | lst (ds : List D) | obj (C : Addr) (fs : List (Str × D)) | dic (kvs : List (Key × D))
def CelOk (K : PySem.W.Frag) (F : Hp) (ho : HO) : Cel → Prop
  | .lst ds => ∃ xs, ho = .lst xs ∧ IsAll K F xs ds
  | .obj C fs => ∃ dx gs, ho = .ins C dx gs ∧ gs.map (·.1) = fs.map (·.1) ∧ IsAll K F (gs.map (·.2)) (fs.map (·.2))
  | .dic es => ∃ kvs, ho = .dK kvs ∧ kvs.map (·.1) = es.map (·.1) ∧ IsAll K F (kvs.map (·.2)) (es.map (·.2))
theorem CelOk.ofL {xs : List V} (h : IsAll K F xs ds) : CelOk K F (.lst xs) (.lst ds) := ⟨xs, rfl, h⟩
theorem CelOk.ofO {C dx : Addr} {gs : List (Str × V)} {fs : List (Str × D)} (h : gs.map (·.1) = fs.map (·.1)) (a : IsAll K F (gs.map (·.2)) (fs.map (·.2))) : CelOk K F (.ins C dx gs) (.obj C fs) := ⟨dx, gs, rfl, h, a⟩
theorem CelOk.mono (s : Same F F') {ho : HO} {c : Cel} (h : CelOk K F ho c) : CelOk K F' ho c := by
  cases c with
  | lst ds => obtain ⟨xs, e, a⟩ := h; exact ⟨xs, e, a.mono s⟩
  | obj C fs => obtain ⟨dx, gs, e, n, a⟩ := h; exact ⟨dx, gs, e, n, a.mono s⟩
  | dic es => obtain ⟨kvs, e, n, a⟩ := h; exact ⟨kvs, e, n, a.mono s⟩
inductive Slot where
  /-- data that stays -/
  | frz (d : D)
  /-- an object of this frame's own, still to be changed: what stands in it stays -/
  | own (p : Addr) (c : Cel)
  /-- data that a caller may still change: a list that is only read here -/
  | lent (d : D)
abbrev Ev := List (Option Slot)
-- H0: the heap at the frame's entry
-- a part of the heap that is read and nobody changes here: it was there at the beginning
def RdOk (m : Option Mem) (H0 H R : Hp) : Prop := ∀ a o, R a = some o → H a = some o ∧ ¬ Touch m a ∧ ∃ o', H0 a = some o'
theorem RdOk.step {H0 R : Hp} (h : RdOk m H0 H R) (t : Step K m F H F' H') : RdOk m H0 H' R := fun a o e => let ⟨h1, h2, h3⟩ := h a o e; ⟨t.keep a o h2 h1, h2, h3⟩
theorem RdOk.any {H0 R : Hp} (h : RdOk m H0 H R) : RdOk none H0 H R := fun a o e => let ⟨h1, _, h3⟩ := h a o e; ⟨h1, (fun z => nomatch z), h3⟩
def LIs (K : PySem.W.Frag) (m : Option Mem) (H0 F H : Hp) (v : V) (d : D) : Prop := Is K F v d ∨ ∃ R, RdOk m H0 H R ∧ Is K R v d
def SlotOk (K : PySem.W.Frag) (m : Option Mem) (H0 F H : Hp) (v : V) : Slot → Prop
  | .lent d => LIs K m H0 F H v d
  | .frz d => Is K F v d
  | .own p c => ∃ ho, v = .ref p ∧ ¬ Touch m p ∧ F p = none ∧ H0 p = none ∧ H p = some ho ∧ CelOk K F ho c
structure Envs (K : PySem.W.Frag) (m : Option Mem) (H0 F H : Hp) (σ : L2.St) (env : Ev) : Prop where
  at_ : ∀ (i : Nat) (s : Slot), env[i]? = some (some s) → ∃ v, σ[i]? = some (some v) ∧ SlotOk K m H0 F H v s
  len : σ.length = env.length
  apart : ∀ (i j : Nat) (ds es : Cel) (p : Addr), i ≠ j → env[i]? = some (some (.own p ds)) → env[j]? ≠ some (some (.own p es))
theorem SlotOk.step {H0 : Hp} {s : Slot} (h : SlotOk K m H0 F H v s) (t : Step K m F H F' H') : SlotOk K m H0 F' H' v s := by
  cases s with
  | frz d => exact Is.mono t.fs h
  | lent d =>
    rcases h with h | ⟨R, hR, h⟩
    · exact .inl (Is.mono t.fs h)
    · exact .inr ⟨R, hR.step t, h⟩
  | own p ds =>
    obtain ⟨xs, rfl, hm, h1, h2, h3, h4⟩ := h
    refine ⟨xs, rfl, hm, ?_, h2, t.keep p _ hm h3, h4.mono t.fs⟩
    cases e : F' p with
    | none => rfl
    | some o => exact absurd (t.new p h1 (by rw [e]; exact fun z => nomatch z)) (by rw [h3]; exact fun z => nomatch z)
theorem Envs.step {H0 : Hp} {σ : L2.St} {env : Ev} (h : Envs K m H0 F H σ env) (t : Step K m F H F' H') : Envs K m H0 F' H' σ env :=
  ⟨fun i s e => let ⟨v, h1, h2⟩ := h.at_ i s e; ⟨v, h1, h2.step t⟩, h.len, h.apart⟩
theorem set_at {env : Ev} {i j : Nat} {o : Option Slot} {s : Slot} (e : (env.set i o)[j]? = some (some s)) : (i = j ∧ i < env.length ∧ o = some s) ∨ (i ≠ j ∧ env[j]? = some (some s)) := by
  by_cases hij : i = j
  · subst hij
    by_cases hl : i < env.length
    · rw [List.getElem?_set_self hl] at e
      exact .inl ⟨rfl, hl, Option.some.inj e⟩
    · rw [List.getElem?_eq_none (by simpa using hl)] at e; cases e
  · rw [List.getElem?_set_ne hij] at e
    exact .inr ⟨hij, e⟩
theorem Envs.frz {H0 : Hp} {σ : L2.St} {env : Ev} {i : Nat} (h : Envs K m H0 F H σ env) (hv : Is K F v d) : Envs K m H0 F H (σ.set i (some v)) (env.set i (some (.frz d))) := by
  refine ⟨fun j s e => ?_, by rw [List.length_set, List.length_set]; exact h.len, fun j k ds es p hjk e1 e2 => ?_⟩
  · rcases set_at e with ⟨rfl, hl, e⟩ | ⟨hij, e⟩
    · cases e
      exact ⟨v, List.getElem?_set_self (by rw [h.len]; exact hl), hv⟩
    · rw [List.getElem?_set_ne hij]
      exact h.at_ j s e
  · rcases set_at e1 with ⟨_, _, e⟩ | ⟨hj, e1⟩
    · cases e
    rcases set_at e2 with ⟨_, _, e⟩ | ⟨hk, e2⟩
    · cases e
    exact h.apart j k ds es p hjk e1 e2
/-- a slot that holds what is not told -/
theorem Envs.wipe {H0 : Hp} {σ : L2.St} {env : Ev} {i : Nat} {o : Option V} (h : Envs K m H0 F H σ env) : Envs K m H0 F H (σ.set i o) (env.set i none) := by
  refine ⟨fun j s e => ?_, by rw [List.length_set, List.length_set]; exact h.len, fun j k ds es p hjk e1 e2 => ?_⟩
  · rcases set_at e with ⟨_, _, e⟩ | ⟨hij, e⟩
    · cases e
    · rw [List.getElem?_set_ne hij]
      exact h.at_ j s e
  · rcases set_at e1 with ⟨_, _, e⟩ | ⟨hj, e1⟩
    · cases e
    rcases set_at e2 with ⟨_, _, e⟩ | ⟨hk, e2⟩
    · cases e
    exact h.apart j k ds es p hjk e1 e2
/-- less is told -/
theorem Envs.less {H0 : Hp} {σ : L2.St} {env env' : Ev} (h : Envs K m H0 F H σ env) (hl : env'.length = env.length) (hs : ∀ (i : Nat) s, env'[i]? = some (some s) → env[i]? = some (some s)) : Envs K m H0 F H σ env' :=
  ⟨fun i s e => h.at_ i s (hs i s e), h.len.trans hl.symm, fun i j ds es p hij e1 e2 => h.apart i j ds es p hij (hs _ _ e1) (hs _ _ e2)⟩
/-- a new list of the frame's own -/
theorem Envs.ownL {H0 : Hp} {σ : L2.St} {env : Ev} {i : Nat} {p : Addr} {ho : HO} {c : Cel} (g : Good K m F H) (h : Envs K m H0 F H σ env) (s : Step K m F H F' H') (hp : H p = none) (h0 : H0 p = none) (hF : F' p = none) (hH : H' p = some ho) (ha : CelOk K F' ho c) :
    Envs K m H0 F' H' (σ.set i (some (.ref p))) (env.set i (some (.own p c))) := by
  have hm : ¬ Touch m p := g.notm hp
  have old : ∀ (j : Nat) (es : Cel), env[j]? ≠ some (some (.own p es)) := fun j es e => by
    obtain ⟨v, h1, xs', hv, hm', h2, h3, h4, h5⟩ := h.at_ j _ e
    rw [hp] at h4; cases h4
  have h' := h.step s
  refine ⟨fun j s e => ?_, by rw [List.length_set, List.length_set]; exact h.len, fun j k es fs q hjk e1 e2 => ?_⟩
  · rcases set_at e with ⟨rfl, hl, e⟩ | ⟨hij, e⟩
    · cases e
      exact ⟨_, List.getElem?_set_self (by rw [h.len]; exact hl), ho, rfl, hm, hF, h0, hH, ha⟩
    · rw [List.getElem?_set_ne hij]
      exact h'.at_ j s e
  · rcases set_at e1 with ⟨rfl, hl, e⟩ | ⟨hj, e1⟩
    · cases e
      rcases set_at e2 with ⟨z, _, _⟩ | ⟨hk, e2⟩
      · exact hjk z
      · exact old k _ e2
    rcases set_at e2 with ⟨rfl, hl, e⟩ | ⟨hk, e2⟩
    · cases e
      exact old j _ e1
    exact h.apart j k es fs q hjk e1 e2
/-- the frame's own list at slot i changes -/
theorem Envs.mut {H0 : Hp} {σ : L2.St} {env : Ev} {i : Nat} {p : Addr} {ho : HO} {ds es : Cel} (h : Envs K m H0 F H σ env) (e : env[i]? = some (some (.own p ds))) (ha : CelOk K F ho es) :
    Envs K m H0 F (upd H p ho) σ (env.set i (some (.own p es))) := by
  refine ⟨fun j s ej => ?_, by rw [List.length_set]; exact h.len, fun j k fs gs q hjk e1 e2 => ?_⟩
  · rcases set_at ej with ⟨rfl, hl, ej⟩ | ⟨hij, ej⟩
    · cases ej
      obtain ⟨v, h1, xs', hv, hm, h2, h3, h4, h5⟩ := h.at_ i _ e
      cases hv
      exact ⟨_, h1, ho, rfl, hm, h2, h3, upd_same, ha⟩
    · obtain ⟨v, h1, h2⟩ := h.at_ j s ej
      refine ⟨v, h1, ?_⟩
      cases s with
      | frz d => exact h2
      | lent d =>
        rcases h2 with h2 | ⟨R, hR, h2⟩
        · exact .inl h2
        · refine .inr ⟨R, fun a o ea => ?_, h2⟩
          obtain ⟨h3, h4, o', h5⟩ := hR a o ea
          obtain ⟨v2, _, ho2, _, _, _, g3, _⟩ := h.at_ i _ e
          refine ⟨?_, h4, o', h5⟩
          rw [upd_ne (fun (z : a = p) => by rw [z, g3] at h5; cases h5)]
          exact h3
      | own p' fs =>
        obtain ⟨xs', rfl, hm, h3, h4, h5, h6⟩ := h2
        refine ⟨xs', rfl, hm, h3, h4, ?_, h6⟩
        rw [upd_ne (fun (z : p' = p) => h.apart i j _ fs p hij e (by rw [← z]; exact ej))]
        exact h5
  · rcases set_at e1 with ⟨rfl, hl, e1⟩ | ⟨hj, e1⟩
    · cases e1
      rcases set_at e2 with ⟨z, _, _⟩ | ⟨hk, e2⟩
      · exact hjk z
      · exact h.apart i k ds gs p hjk e e2
    rcases set_at e2 with ⟨rfl, hl, e2⟩ | ⟨hk, e2⟩
    · cases e2
      exact h.apart j i fs ds p hjk e1 e
    exact h.apart j k fs gs q hjk e1 e2
/-- the frame's own list at slot i stays from now on -/
theorem Envs.freeze {H0 : Hp} {σ : L2.St} {env : Ev} {i : Nat} {p : Addr} (g : Good K m F H) (h : Envs K m H0 F H σ env) (e : env[i]? = some (some (.own p (.lst ds)))) :
    ∃ xs, σ[i]? = some (some (.ref p)) ∧ ¬ Touch m p ∧ F p = none ∧ H0 p = none ∧ H p = some (.lst xs) ∧ IsAll K F xs ds ∧ Good K m (upd F p (.lst xs)) H ∧ Envs K m H0 (upd F p (.lst xs)) H σ (env.set i (some (.frz (.lst ds)))) := by
  obtain ⟨v, h1, ho, rfl, hm, h2, h3, h4, xs, rfl, h5⟩ := h.at_ i _ e
  have s : Same F (upd F p (.lst xs)) := same_upd h2
  refine ⟨xs, h1, hm, h2, h3, h4, h5, g.freeze h2 hm h4, fun j t ej => ?_, by rw [List.length_set]; exact h.len, fun j k fs gs q hjk e1 e2 => ?_⟩
  · rcases set_at ej with ⟨rfl, hl, ej⟩ | ⟨hij, ej⟩
    · cases ej
      exact ⟨_, h1, Is.lst upd_same (h5.mono s)⟩
    · obtain ⟨v, g1, g2⟩ := h.at_ j t ej
      refine ⟨v, g1, ?_⟩
      cases t with
      | frz d => exact Is.mono s g2
      | lent d =>
        rcases g2 with g2 | g2
        · exact .inl (Is.mono s g2)
        · exact .inr g2
      | own p' fs =>
        obtain ⟨xs', rfl, hm', h3', h4', h5', h6⟩ := g2
        refine ⟨xs', rfl, hm', ?_, h4', h5', h6.mono s⟩
        rw [upd_ne (fun (z : p' = p) => h.apart i j _ fs p hij e (by rw [← z]; exact ej))]
        exact h3'
  · rcases set_at e1 with ⟨_, _, e1⟩ | ⟨hj, e1⟩
    · cases e1
    rcases set_at e2 with ⟨_, _, e2⟩ | ⟨hk, e2⟩
    · cases e2
    exact h.apart j k fs gs q hjk e1 e2
/-- an exception's dict stays from now on -/
theorem Envs.freezeX {H0 : Hp} {σ : L2.St} {env : Ev} {p : Addr} {gs : List (Str × V)} (h : Envs K m H0 F H σ env) (hF : F p = none) (hH : H p = some (.xd gs)) : Envs K m H0 (upd F p (.xd gs)) H σ env := by
  refine ⟨fun i s e => ?_, h.len, h.apart⟩
  obtain ⟨v, h1, h2⟩ := h.at_ i s e
  refine ⟨v, h1, ?_⟩
  have sm : Same F (upd F p (.xd gs)) := same_upd hF
  cases s with
  | frz d => exact Is.mono sm h2
  | lent d =>
    rcases h2 with h2 | h2
    · exact .inl (Is.mono sm h2)
    · exact .inr h2
  | own p' c =>
    obtain ⟨ho, e1, hm, e3, e4, e5, e6⟩ := h2
    refine ⟨ho, e1, hm, ?_, e4, e5, e6.mono sm⟩
    rw [upd_ne (fun z : p' = p => ?_)]
    · exact e3
    · rw [z, hH] at e5
      cases e5
      cases c with
      | lst ds => obtain ⟨_, z, _⟩ := e6; cases z
      | obj C fs => obtain ⟨_, _, z, _⟩ := e6; cases z
      | dic es => obtain ⟨_, z, _⟩ := e6; cases z
end
end DL
set_option Elab.async false
set_option linter.all false
set_option maxRecDepth 100000
set_option autoImplicit false
/-! DL, part 2: the judgements over data, and the rules for expressions. -/
namespace DL
open PySem L2

/-! ### readings by themselves -/
def TEc (X : Cx) (e : Expr) : TE := fun σ H Q => ∀ pins s, Inv X pins σ H s → wpAny (model X.prog X.w) X.A (eval e X.env) (EP X pins σ Q) X.xe s
theorem pe_can {X : Cx} {e : Expr} : PE X e (TEc X e) := ⟨fun pins s _ _ _ I h => h pins s I⟩
theorem tec {X : Cx} {e : Expr} {t : TE} (h : PE X e t) {σ : L2.St} {H : Hp} {Q : VK} (q : t σ H Q) : TEc X e σ H Q := fun pins s I => h.run pins s σ H Q I q
def TTc (X : Cx) (e : Expr) : TT := fun σ H Q => ∀ pins s, Inv X pins σ H s → wpAny (model X.prog X.w) X.A (isTrue e X.env (eval e X.env)) (TP X pins σ Q) X.xe s
theorem pt_can {X : Cx} {e : Expr} : PT X e (TTc X e) := ⟨fun pins s _ _ _ I h => h pins s I⟩
theorem ttc {X : Cx} {e : Expr} {t : TT} (h : PT X e t) {σ : L2.St} {H : Hp} {Q : Bool → Hp → Prop} (q : t σ H Q) : TTc X e σ H Q := fun pins s I => h.run pins s σ H Q I q
def TWc (X : Cx) (e : Expr) : TT := fun σ H Q => ∀ whole pins s, Inv X pins σ H s → wpAny (model X.prog X.w) X.A (isTrue e X.env whole) (TP X pins σ Q) X.xe s
theorem pw_can {X : Cx} {e : Expr} : PW X e (TWc X e) := ⟨fun wh pins s _ _ _ I h => h wh pins s I⟩
theorem twc {X : Cx} {e : Expr} {t : TT} (h : PW X e t) {σ : L2.St} {H : Hp} {Q : Bool → Hp → Prop} (q : t σ H Q) : TWc X e σ H Q := fun wh pins s I => h.run wh pins s σ H Q I q
def TAc (X : Cx) (es : List Expr) : TA := fun σ H Q => ∀ pos pins s, Inv X pins σ H s → wpAny (model X.prog X.w) X.A (spliced (backTo pos (starEach es X.env))) (AP X pins σ Q) X.xe s
theorem pa_can {X : Cx} {es : List Expr} : PA X es (TAc X es) := ⟨fun pos pins s _ _ _ I h => h pos pins s I⟩
theorem tac {X : Cx} {es : List Expr} {t : TA} (h : PA X es t) {σ : L2.St} {H : Hp} {Q : List V → Hp → Prop} (q : t σ H Q) : TAc X es σ H Q := fun pos pins s I => h.run pos pins s σ H Q I q

/-! ### the judgements -/
/-- what comes of it -/
def Then (K : PySem.W.Frag) (m : Option Mem) (F H : Hp) (P : D → Prop) (k : VK) : Prop := ∀ v d F' H', Step K m F H F' H' → Is K F' v d → P d → k v H'
def ThenT (K : PySem.W.Frag) (m : Option Mem) (F H : Hp) (P : Bool → Prop) (k : Bool → Hp → Prop) : Prop := ∀ b F' H', Step K m F H F' H' → P b → k b H'
def ThenA (K : PySem.W.Frag) (m : Option Mem) (F H : Hp) (P : List D → Prop) (k : List V → Hp → Prop) : Prop := ∀ vs ds F' H', Step K m F H F' H' → IsAll K F' vs ds → P ds → k vs H'
/-- a new list at an address of its own that is not yet in F' -/
def ThenL (K : PySem.W.Frag) (m : Option Mem) (F H : Hp) (P : List D → Prop) (k : VK) : Prop := ∀ p xs ds F' H', H p = none → F' p = none → Step K m F H F' H' → H' p = some (.lst xs) → IsAll K F' xs ds → P ds → k (.ref p) H'
structure WE (X : Cx) (m : Option Mem) (env : Ev) (e : Expr) (P : D → Prop) : Prop where
  run : ∀ σ H0 F H k, Good X.K m F H → Envs X.K m H0 F H σ env → Then X.K m F H P k → TEc X e σ H k
structure WL (X : Cx) (m : Option Mem) (env : Ev) (e : Expr) (P : List D → Prop) : Prop where
  run : ∀ σ H0 F H k, Good X.K m F H → Envs X.K m H0 F H σ env → ThenL X.K m F H P k → TEc X e σ H k
structure WT (X : Cx) (m : Option Mem) (env : Ev) (e : Expr) (P : Bool → Prop) : Prop where
  run : ∀ σ H0 F H k, Good X.K m F H → Envs X.K m H0 F H σ env → ThenT X.K m F H P k → TTc X e σ H k
structure WW (X : Cx) (m : Option Mem) (env : Ev) (e : Expr) (P : Bool → Prop) : Prop where
  run : ∀ σ H0 F H k, Good X.K m F H → Envs X.K m H0 F H σ env → ThenT X.K m F H P k → TWc X e σ H k
structure WA (X : Cx) (m : Option Mem) (env : Ev) (es : List Expr) (P : List D → Prop) : Prop where
  run : ∀ σ H0 F H k, Good X.K m F H → Envs X.K m H0 F H σ env → ThenA X.K m F H P k → TAc X es σ H k

section
variable {K : PySem.W.Frag} {m : Option Mem} {F H F' H' : Hp} {P : D → Prop} {k : VK}
theorem Then.at (h : Then K m F H P k) (g : Good K m F H) {v : V} {d : D} (hv : Is K F v d) (hP : P d) : k v H := h v d F H (.refl g) hv hP
theorem ThenT.at {P : Bool → Prop} {k : Bool → Hp → Prop} (h : ThenT K m F H P k) (g : Good K m F H) {b : Bool} (hP : P b) : k b H := h b F H (.refl g) hP
theorem Then.after (h : Then K m F H P k) (s : Step K m F H F' H') : Then K m F' H' P k := fun v d F2 H2 t hv hP => h v d F2 H2 (s.trans t) hv hP
theorem ThenT.after {P : Bool → Prop} {k : Bool → Hp → Prop} (h : ThenT K m F H P k) (s : Step K m F H F' H') : ThenT K m F' H' P k := fun b F2 H2 t hP => h b F2 H2 (s.trans t) hP
theorem ThenA.after {P : List D → Prop} {k : List V → Hp → Prop} (h : ThenA K m F H P k) (s : Step K m F H F' H') : ThenA K m F' H' P k := fun v d F2 H2 t hv hP => h v d F2 H2 (s.trans t) hv hP
theorem fresh_before (s : Step K m F H F' H') (g : Good K m F H) {p : Addr} (hp : H' p = none) : H p = none := by
  cases e : H p with
  | none => rfl
  | some o =>
    by_cases hm : Touch m p
    · obtain ⟨u, hu⟩ := s.good.touch hm
      rw [hu] at hp; cases hp
    · rw [s.keep p o hm e] at hp; cases hp
theorem ThenL.after {P : List D → Prop} (h : ThenL K m F H P k) (s : Step K m F H F' H') (g : Good K m F H) : ThenL K m F' H' P k := fun p xs ds F2 H2 h1 h2 t e ha hP => h p xs ds F2 H2 (fresh_before s g h1) h2 (s.trans t) e ha hP
theorem Good.noF (g : Good K m F H) {p : Addr} (hp : H p = none) : F p = none := by
  cases e : F p with
  | none => rfl
  | some u => rw [g.sub p u e] at hp; cases hp
/-- a new list, laid now -/
theorem ThenL.laid {P : List D → Prop} (h : ThenL K m F H P k) (g : Good K m F H) {p : Addr} {xs : List V} {ds : List D} (hp : H p = none) (ha : IsAll K F xs ds) (hP : P ds) : k (.ref p) (upd H p (.lst xs)) :=
  h p xs ds F _ hp (g.noF hp) (g.fresh hp) upd_same ha hP
theorem Then.laidT (h : Then K m F H P k) (g : Good K m F H) {p : Addr} {xs : List V} {ds : List D} (hp : H p = none) (ha : IsAll K F xs ds) (hP : P (.tup ds)) : k (.ref p) (upd H p (.tup xs)) :=
  h _ _ (upd F p (.tup xs)) _ (g.grow hp) (.tup upd_same (ha.mono (same_upd (g.noF hp)))) hP
end

/-! ### data by its form -/
abbrev asInt (d : D) (P : Int → Prop) : Prop := match d with | .int i => P i | _ => False
abbrev asBl (d : D) (P : Bool → Prop) : Prop := match d with | .bl b => P b | _ => False
abbrev asLst (d : D) (P : List D → Prop) : Prop := match d with | .lst xs => P xs | _ => False
abbrev asTup (d : D) (P : List D → Prop) : Prop := match d with | .tup xs => P xs | _ => False
abbrev asRef (d : D) (P : Addr → Prop) : Prop := match d with | .ref a => P a | _ => False

section
variable {K : PySem.W.Frag} {F : Hp} {v : V} {d : D}
theorem Is.asInt (h : Is K F v d) {P : Int → Prop} (q : DL.asInt d P) : ∃ i, v = .int i ∧ d = .int i ∧ P i := by
  cases h <;> first | exact q.elim | exact ⟨_, rfl, rfl, q⟩
theorem Is.asBl (h : Is K F v d) {P : Bool → Prop} (q : DL.asBl d P) : ∃ i, v = .bl i ∧ d = .bl i ∧ P i := by
  cases h <;> first | exact q.elim | exact ⟨_, rfl, rfl, q⟩
theorem Is.asLst (h : Is K F v d) {P : List D → Prop} (q : DL.asLst d P) : ∃ p xs ds, v = .ref p ∧ d = .lst ds ∧ F p = some (.lst xs) ∧ IsAll K F xs ds ∧ P ds := by
  cases h <;> first | exact q.elim | skip
  rename_i p xs ds h1 h2
  exact ⟨p, xs, ds, rfl, rfl, h1, h2, q⟩
theorem Is.asTup (h : Is K F v d) {P : List D → Prop} (q : DL.asTup d P) : ∃ p xs ds, v = .ref p ∧ d = .tup ds ∧ F p = some (.tup xs) ∧ IsAll K F xs ds ∧ P ds := by
  cases h <;> first | exact q.elim | skip
  rename_i p xs ds h1 h2
  exact ⟨p, xs, ds, rfl, rfl, h1, h2, q⟩
end

/-! ### expressions -/
section
variable {X : Cx} {m : Option Mem} {env : Ev} {a b c e : Expr} {es : List Expr} {P : D → Prop} {pos : Pos}
theorem WE.mono {P P' : D → Prop} (h : WE X m env e P) (i : ∀ d, P d → P' d) : WE X m env e P' := ⟨fun σ H0 F H k g ev t => h.run σ H0 F H k g ev fun v d F' H' s hv hP => t v d F' H' s hv (i d hP)⟩
theorem WT.mono {P P' : Bool → Prop} (h : WT X m env e P) (i : ∀ d, P d → P' d) : WT X m env e P' := ⟨fun σ H0 F H k g ev t => h.run σ H0 F H k g ev fun b F' H' s hP => t b F' H' s (i b hP)⟩
theorem WL.mono {P P' : List D → Prop} (h : WL X m env e P) (i : ∀ d, P d → P' d) : WL X m env e P' := ⟨fun σ H0 F H k g ev t => h.run σ H0 F H k g ev fun p xs ds F' H' h1 h2 s e ha hP => t p xs ds F' H' h1 h2 s e ha (i ds hP)⟩
/-- a list that nobody will change -/
theorem WL.we {P : D → Prop} (h : WL X m env e fun ds => P (.lst ds)) : WE X m env e P := by
  refine ⟨fun σ H0 F H k g ev t => h.run σ H0 F H k g ev fun p xs ds F' H' h1 h2 s e ha hP => ?_⟩
  have hm : ¬ Touch m p := fun z => by
    obtain ⟨u, hu⟩ := g.touch z
    rw [hu] at h1; cases h1
  refine t _ _ (upd F' p (.lst xs)) H' ⟨s.fs.trans (same_upd h2), s.good.freeze h2 hm e, fun a q1 q2 => ?_, s.keep⟩ (.lst upd_same (ha.mono (same_upd h2))) hP
  by_cases hap : a = p
  · subst hap; exact h1
  · rw [upd_ne hap] at q2; exact s.new a q1 q2
theorem we_name (i : Nat) {x : Str} {d : D} (hN : X.N[i]? = some x) (hv : Vis X.env.scope x) (hd : (x == ("__debug__" : Str)) = false) (hcd : (x == ("__classdict__" : Str)) = false) (he : env[i]? = some (some (.frz d))) (h : P d) : WE X m env (.Name x pos) P := by
  refine ⟨fun σ H0 F H k g ev t => tec (pe_var hN hv hd hcd) ?_⟩
  obtain ⟨v, h1, h2⟩ := ev.at_ i _ he
  exact ⟨v, h1, t.at g h2 h⟩
theorem we_int {i : Int} {j : Nat} (h : P (.int i)) : WE X m env (.Constant (.int i) j pos) P := ⟨fun σ H0 F H k g ev t => tec pe_int (t.at g (.int i) h)⟩
theorem we_bl {i : Bool} {j : Nat} (h : P (.bl i)) : WE X m env (.Constant (.bool i) j pos) P := ⟨fun σ H0 F H k g ev t => tec pe_bl (t.at g (.bl i) h)⟩
theorem we_non {j : Nat} (h : P .non) : WE X m env (.Constant .none j pos) P := ⟨fun σ H0 F H k g ev t => tec pe_non (t.at g .non h)⟩
theorem we_str {x : Str} {j : Nat} (h : P (.str x)) : WE X m env (.Constant (.str x) j pos) P := ⟨fun σ H0 F H k g ev t => tec pe_str (t.at g (.str x) h)⟩
theorem we_glob {x : Str} {d : D} {v : V} {u : Value} (hg : Gl X x) (hm : X.mg x = some u) (r : RelV v u) (hf : DL.flat d = some v) (hd : (x == ("__debug__" : Str)) = false) (h : P d) : WE X m env (.Name x pos) P :=
  ⟨fun σ H0 F H k g ev t => tec (pe_glob hg hm r hd) (t.at g (is_flat hf) h)⟩
theorem we_bltn {x : Str} {n : String} (hg : Gl X x) (hm : X.mg x = none) (hv : bootBuiltins x = some (.type n)) (hn : x ≠ "__name__") (hd : (x == ("__debug__" : Str)) = false) (h : P (.ty n)) : WE X m env (.Name x pos) P :=
  ⟨fun σ H0 F H k g ev t => tec (pe_bltn hg hm hv (v := .ty n) rfl hn hd) (t.at g (.ty n) h)⟩

/-- a two-place operation on data -/
structure R2D (K : PySem.W.Frag) (m : Option Mem) (r : R2) (x y : D) (P : D → Prop) : Prop where
  run : ∀ F H v w k, Good K m F H → Is K F v x → Is K F w y → Then K m F H P k → r v w H k
structure R2L (K : PySem.W.Frag) (m : Option Mem) (r : R2) (x y : D) (P : List D → Prop) : Prop where
  run : ∀ F H v w k, Good K m F H → Is K F v x → Is K F w y → ThenL K m F H P k → r v w H k
theorem we_tOp {t : TE} {r : R2} (h : PE X e t) (ht : t = tOp r (TEc X a) (TEc X b)) (w : WE X m env a fun x => WE X m env b fun y => R2D X.K m r x y P) : WE X m env e P := by
  subst ht
  refine ⟨fun σ H0 F H k g ev t => tec h ?_⟩
  refine w.run σ H0 F H _ g ev fun x dx F1 H1 s1 hx w1 => ?_
  refine w1.run σ H0 F1 H1 _ s1.good (ev.step s1) fun y dy F2 H2 s2 hy q => ?_
  exact q.run F2 H2 x y k s2.good (hx.mono s2.fs) hy ((t.after s1).after s2)
theorem wl_tOp {t : TE} {r : R2} {P : List D → Prop} (h : PE X e t) (ht : t = tOp r (TEc X a) (TEc X b)) (w : WE X m env a fun x => WE X m env b fun y => R2L X.K m r x y P) : WL X m env e P := by
  subst ht
  refine ⟨fun σ H0 F H k g ev t => tec h ?_⟩
  refine w.run σ H0 F H _ g ev fun x dx F1 H1 s1 hx w1 => ?_
  refine w1.run σ H0 F1 H1 _ s1.good (ev.step s1) fun y dy F2 H2 s2 hy q => ?_
  exact q.run F2 H2 x y k s2.good (hx.mono s2.fs) hy ((t.after s1 g).after s2 s1.good)
theorem r2_I0 {K : PySem.W.Frag} {f : Int → Int → V} {f' : Int → Int → D} (hf : ∀ i j, DL.flat (f' i j) = some (f i j)) {x y : D} (q : asInt x fun i => asInt y fun j => P (f' i j)) : R2D K m (rI0 f) x y P := by
  refine ⟨fun F H v w k g hv hw t => ?_⟩
  obtain ⟨i, rfl, rfl, q⟩ := hv.asInt q
  obtain ⟨j, rfl, rfl, q⟩ := hw.asInt q
  exact ⟨i, j, rfl, rfl, t.at g (is_flat (hf i j)) q⟩
theorem r2_I {K : PySem.W.Frag} {C : Int → Int → Prop} {f : Int → Int → V} {f' : Int → Int → D} (hf : ∀ i j, DL.flat (f' i j) = some (f i j)) {x y : D} (q : asInt x fun i => asInt y fun j => C i j ∧ P (f' i j)) : R2D K m (rI C f) x y P := by
  refine ⟨fun F H v w k g hv hw t => ?_⟩
  obtain ⟨i, rfl, rfl, q⟩ := hv.asInt q
  obtain ⟨j, rfl, rfl, c, q⟩ := hw.asInt q
  exact ⟨i, j, rfl, rfl, c, t.at g (is_flat (hf i j)) q⟩
theorem we_add (w : WE X m env a fun x => WE X m env b fun y => asInt x fun i => asInt y fun j => P (.int (i + j))) : WE X m env (.BinOp a .Add b pos) P :=
  we_tOp (pe_op op_add pe_can pe_can) rfl (w.mono fun _ h => h.mono fun _ q => r2_I0 (fun _ _ => rfl) q)
theorem we_sub (w : WE X m env a fun x => WE X m env b fun y => asInt x fun i => asInt y fun j => P (.int (i - j))) : WE X m env (.BinOp a .Sub b pos) P :=
  we_tOp (pe_op op_sub pe_can pe_can) rfl (w.mono fun _ h => h.mono fun _ q => r2_I0 (fun _ _ => rfl) q)
theorem we_mul (w : WE X m env a fun x => WE X m env b fun y => asInt x fun i => asInt y fun j => CMulW i j ∧ P (.int (i * j))) : WE X m env (.BinOp a .Mult b pos) P :=
  we_tOp (pe_op op_mulW pe_can pe_can) rfl (w.mono fun _ h => h.mono fun _ q => r2_I (fun _ _ => rfl) q)
theorem we_muls (w : WE X m env a fun x => WE X m env b fun y => asInt x fun i => asInt y fun j => CMul i j ∧ P (.int (i * j))) : WE X m env (.BinOp a .Mult b pos) P :=
  we_tOp (pe_op op_mul pe_can pe_can) rfl (w.mono fun _ h => h.mono fun _ q => r2_I (fun _ _ => rfl) q)
theorem we_fdiv (w : WE X m env a fun x => WE X m env b fun y => asInt x fun i => asInt y fun j => CDivW i j ∧ P (.int (i / j))) : WE X m env (.BinOp a .FloorDiv b pos) P :=
  we_tOp (pe_op op_fdivW pe_can pe_can) rfl (w.mono fun _ h => h.mono fun _ q => r2_I (fun _ _ => rfl) q)
theorem we_mod (w : WE X m env a fun x => WE X m env b fun y => asInt x fun i => asInt y fun j => 0 < j ∧ P (.int (i % j))) : WE X m env (.BinOp a .Mod b pos) P :=
  we_tOp (pe_op op_mod pe_can pe_can) rfl (w.mono fun _ h => h.mono fun _ q => r2_I (fun _ _ => rfl) q)
theorem we_pow (w : WE X m env a fun x => WE X m env b fun y => asInt x fun i => asInt y fun j => CPow i j ∧ P (.int (i ^ j.toNat))) : WE X m env (.BinOp a .Pow b pos) P :=
  we_tOp (pe_op op_pow pe_can pe_can) rfl (w.mono fun _ h => h.mono fun _ q => r2_I (fun _ _ => rfl) q)
/-! #### comparisons of ints, as values and as tests -/
theorem we_lt (w : WE X m env a fun x => WE X m env b fun y => asInt x fun i => asInt y fun j => P (.bl (decide (i < j)))) : WE X m env (.Compare a [.Lt] [b] pos) P :=
  we_tOp (pe_cmpR op_lt pe_can pe_can (nomark _)) rfl (w.mono fun _ h => h.mono fun _ q => r2_I0 (fun _ _ => rfl) q)
theorem we_le (w : WE X m env a fun x => WE X m env b fun y => asInt x fun i => asInt y fun j => P (.bl (decide (i ≤ j)))) : WE X m env (.Compare a [.LtE] [b] pos) P :=
  we_tOp (pe_cmpR op_le pe_can pe_can (nomark _)) rfl (w.mono fun _ h => h.mono fun _ q => r2_I0 (fun _ _ => rfl) q)
theorem we_gt (w : WE X m env a fun x => WE X m env b fun y => asInt x fun i => asInt y fun j => P (.bl (decide (j < i)))) : WE X m env (.Compare a [.Gt] [b] pos) P :=
  we_tOp (pe_cmpR op_gt pe_can pe_can (nomark _)) rfl (w.mono fun _ h => h.mono fun _ q => r2_I0 (fun _ _ => rfl) q)
theorem we_ge (w : WE X m env a fun x => WE X m env b fun y => asInt x fun i => asInt y fun j => P (.bl (decide (j ≤ i)))) : WE X m env (.Compare a [.GtE] [b] pos) P :=
  we_tOp (pe_cmpR op_ge pe_can pe_can (nomark _)) rfl (w.mono fun _ h => h.mono fun _ q => r2_I0 (fun _ _ => rfl) q)
/-! #### arguments, displays -/
theorem wa_nil {P : List D → Prop} (h : P []) : WA X m env [] P := ⟨fun σ H0 F H k g ev t => tac pa_nil (t [] [] F H (.refl g) .nil h)⟩
theorem wa_cons {P : List D → Prop} (h : WE X m env e fun d => WA X m env es fun ds => P (d :: ds)) (hs : starEach (e :: es) X.env = (false, eval e X.env) :: starEach es X.env) : WA X m env (e :: es) P := by
  refine ⟨fun σ H0 F H k g ev t => tac (pa_cons pe_can pa_can hs) ?_⟩
  refine h.run σ H0 F H _ g ev fun v d F1 H1 s1 hv w1 => ?_
  refine w1.run σ H0 F1 H1 _ s1.good (ev.step s1) fun vs ds F2 H2 s2 hvs q => ?_
  exact (t.after s1).after s2 _ _ F2 H2 (.refl s2.good) (.cons (hv.mono s2.fs) hvs) q
theorem wl_lst {P : List D → Prop} (h : WA X m env es fun ds => ds.length ≤ 1000000 ∧ P ds) : WL X m env (.List es pos) P := by
  refine ⟨fun σ H0 F H k g ev t => tec (pe_lst pa_can) ?_⟩
  refine h.run σ H0 F H _ g ev fun vs ds F1 H1 s1 hvs q => ⟨?_, fun p hp => (t.after s1 g).laid s1.good hp hvs q.2⟩
  rw [hvs.length]
  exact Nat.le_trans q.1 (by rw [sizeLine_eq]; decide)
theorem we_tup {k0 : Nat} (h : WA X m env es fun ds => ds.length ≤ 1000000 ∧ P (.tup ds)) : WE X m env (.Tuple es k0 pos) P := by
  refine ⟨fun σ H0 F H k g ev t => tec (pe_tup pa_can) ?_⟩
  refine h.run σ H0 F H _ g ev fun vs ds F1 H1 s1 hvs q => ⟨?_, fun p hp => (t.after s1).laidT s1.good hp hvs q.2⟩
  rw [hvs.length]
  exact Nat.le_trans q.1 (by rw [sizeLine_eq]; decide)
end
end DL
set_option Elab.async false
set_option linter.all false
set_option maxRecDepth 100000
set_option autoImplicit false
/-! DL, part 3: subscripts, slices, equality, built-in calls. -/
namespace DL
open PySem L2

abbrev asSeq (d : D) (P : List D → Prop) : Prop := match d with | .lst xs => P xs | .tup xs => P xs | .nam _ xs => P xs | _ => False
theorem Is.asSeq {K : PySem.W.Frag} {F : Hp} {v : V} {d : D} (h : Is K F v d) {P : List D → Prop} (q : DL.asSeq d P) : ∃ p xs ds, v = .ref p ∧ (F p = some (.lst xs) ∨ F p = some (.tup xs)) ∧ IsAll K F xs ds ∧ P ds := by
  cases h <;> first | exact q.elim | skip
  · rename_i p xs ds h1 h2
    exact ⟨p, xs, ds, rfl, .inl h1, h2, q⟩
  · rename_i p xs ds h1 h2
    exact ⟨p, xs, ds, rfl, .inr h1, h2, q⟩
  · rename_i p xs ds h1 h2
    exact ⟨p, xs, ds, rfl, .inl h1, h2, q⟩
theorem IsAll.atI {K : PySem.W.Frag} {F : Hp} {xs : List V} {ds : List D} (h : IsAll K F xs ds) {i : Int} {d : D} (e : L2.atI ds i = some d) : ∃ v, L2.atI xs i = some v ∧ Is K F v d := by
  unfold L2.atI at e ⊢
  rw [h.length]
  cases e1 : ixN ds.length i with
  | none => rw [e1] at e; cases e
  | some j =>
    rw [e1] at e
    exact h.get e

section
variable {X : Cx} {m : Option Mem} {env : Ev} {a b c e : Expr} {es : List Expr} {P : D → Prop} {pos : Pos}
theorem we_ix (hs : PlainIx b) (w : WE X m env a fun x => WE X m env b fun y => asSeq x fun ds => asInt y fun i => ∃ d, atI ds i = some d ∧ P d) : WE X m env (.Subscript a b pos) P := by
  refine we_tOp (pe_ix (ix_list.or ix_tup) pe_can pe_can hs) rfl (w.mono fun _ h => h.mono fun _ q => ⟨fun F H v w k g hv hw t => ?_⟩)
  obtain ⟨p, xs, ds, rfl, h1, h2, q⟩ := hv.asSeq q
  obtain ⟨i, rfl, rfl, d, e, q⟩ := hw.asInt q
  obtain ⟨u, e', hu⟩ := h2.atI e
  rcases h1 with h1 | h1
  · exact .inl ⟨p, xs, i, u, rfl, rfl, .of (g.sub _ _ h1), e', t.at g hu q⟩
  · exact .inr ⟨p, xs, i, u, rfl, rfl, .of (g.sub _ _ h1), e', t.at g hu q⟩
/-- slices -/
def TOc (X : Cx) (o : Option Expr) : TO := fun σ H Q => ∀ pins s, Inv X pins σ H s → wpAny (model X.prog X.w) X.A (evalPart o X.env) (fun u s' => ∃ o H', Inv X pins σ H' s' ∧ IsPart u o ∧ Q o H') X.xe s
theorem po_can {o : Option Expr} : PO X o (TOc X o) := ⟨fun pins s _ _ _ I h => h pins s I⟩
theorem toc {o : Option Expr} {t : TO} (h : PO X o t) {σ : L2.St} {H : Hp} {Q : Option Int → Hp → Prop} (q : t σ H Q) : TOc X o σ H Q := fun pins s I => h.run pins s σ H Q I q
structure WO (X : Cx) (m : Option Mem) (env : Ev) (o : Option Expr) (P : Option Int → Prop) : Prop where
  run : ∀ σ H0 F H k, Good X.K m F H → Envs X.K m H0 F H σ env → (∀ v F' H', Step X.K m F H F' H' → P v → k v H') → TOc X o σ H k
theorem wo_none {P : Option Int → Prop} (h : P none) : WO X m env none P := ⟨fun σ H0 F H k g ev t => toc po_none (t _ F H (.refl g) h)⟩
theorem wo_some {P : Option Int → Prop} (h : WE X m env e fun d => asInt d fun i => P (some i)) : WO X m env (some e) P := by
  refine ⟨fun σ H0 F H k g ev t => toc (po_some pe_can) ?_⟩
  refine h.run σ H0 F H _ g ev fun v d F1 H1 s1 hv q => ?_
  obtain ⟨i, rfl, rfl, q⟩ := hv.asInt q
  exact ⟨i, rfl, t _ F1 H1 s1 q⟩
def cut {α : Type} (xs : List α) (lo hi : Option Int) : List α := (xs.drop (HT.sIx xs.length 0 lo)).take (HT.sIx xs.length xs.length hi - HT.sIx xs.length 0 lo)
theorem IsAll.cut {K : PySem.W.Frag} {F : Hp} {xs : List V} {ds : List D} (h : IsAll K F xs ds) (lo hi : Option Int) : IsAll K F (cutV xs lo hi) (DL.cut ds lo hi) := by
  unfold cutV DL.cut
  rw [h.length]
  exact (h.drop _).take _
theorem wl_slice {lo hi : Option Expr} {p2 : Pos} {P : List D → Prop} (w : WE X m env e fun x => WO X m env lo fun l => WO X m env hi fun u => asLst x fun ds => P (cut ds l u)) : WL X m env (.Subscript e (.Slice lo hi none p2) pos) P := by
  refine ⟨fun σ H0 F H k g ev t => tec (pe_slice sl_list pe_can po_can po_can) ?_⟩
  refine w.run σ H0 F H _ g ev fun x dx F1 H1 s1 hx w1 => ?_
  refine w1.run σ H0 F1 H1 _ s1.good (ev.step s1) fun l F2 H2 s2 w2 => ?_
  refine w2.run σ H0 F2 H2 _ s2.good ((ev.step s1).step s2) fun u F3 H3 s3 q => ?_
  obtain ⟨p, xs, ds, rfl, rfl, h1, h2, q⟩ := hx.asLst q
  have h1' := s3.good.sub _ _ (s3.fs _ _ (s2.fs _ _ h1))
  exact ⟨p, xs, rfl, .of h1', fun p' hp => (((t.after s1 g).after s2 s1.good).after s3 s2.good).laid s3.good hp (((h2.mono s2.fs).mono s3.fs).cut l u) q⟩
/-- xs + ys, xs * n -/
theorem wl_cat {P : List D → Prop} (w : WE X m env a fun x => WE X m env b fun y => asLst x fun ds => asLst y fun es => ds.length + es.length ≤ 1000000 ∧ P (ds ++ es)) : WL X m env (.BinOp a .Add b pos) P := by
  refine wl_tOp (pe_op op_cat pe_can pe_can) rfl (w.mono fun _ h => h.mono fun _ q => ⟨fun F H v w k g hv hw t => ?_⟩)
  obtain ⟨p, xs, ds, rfl, rfl, h1, h2, q⟩ := hv.asLst q
  obtain ⟨p', ys, es, rfl, rfl, h1', h2', hz, q⟩ := hw.asLst q
  refine ⟨p, p', xs, ys, rfl, rfl, g.sub _ _ h1, g.sub _ _ h1', ?_, fun r hr => t.laid g hr (h2.append h2') q⟩
  rw [h2.length, h2'.length, sizeLine_eq]
  omega
theorem isAll_rep {K : PySem.W.Frag} {F : Hp} {xs : List V} {ds : List D} (h : IsAll K F xs ds) : ∀ n : Nat, IsAll K F (List.replicate n xs).flatten (List.replicate n ds).flatten
  | 0 => .nil
  | n + 1 => by
    rw [List.replicate_succ, List.replicate_succ, List.flatten_cons, List.flatten_cons]
    exact h.append (isAll_rep h n)
theorem wl_rep {P : List D → Prop} (w : WE X m env a fun x => WE X m env b fun y => asLst x fun ds => asInt y fun i => i < 1000 ∧ -1000 < i ∧ ds.length * i.toNat ≤ 1000000 ∧ P (List.replicate i.toNat ds).flatten) : WL X m env (.BinOp a .Mult b pos) P := by
  refine wl_tOp (pe_op op_rep pe_can pe_can) rfl (w.mono fun _ h => h.mono fun _ q => ⟨fun F H v w k g hv hw t => ?_⟩)
  obtain ⟨p, xs, ds, rfl, rfl, h1, h2, q⟩ := hv.asLst q
  obtain ⟨i, rfl, rfl, i1, i2, hz, q⟩ := hw.asInt q
  refine ⟨p, i, xs, rfl, rfl, g.sub _ _ h1, by omega, by omega, ?_, fun r hr => t.laid g hr (isAll_rep h2 _) q⟩
  rw [h2.length, sizeLine_eq]
  omega
end

/-! ### equality of data -/
mutual
def D.py : D → PyData
  | .non => .none | .bl b => .bool b | .int i => .int i | .str x => .str x | .ty _ => .none | .ref _ => .none
  | .lst xs => .list (D.pyAll xs) | .tup xs => .tuple (D.pyAll xs) | .ins _ _ => .none | .nam _ _ => .none | .exc _ _ _ _ => .none | .er0 _ => .none | .er1 _ _ _ => .none
def D.pyAll : List D → List PyData
  | [] => []
  | d :: ds => d.py :: D.pyAll ds
end
mutual
/-- no objects in it, at most so deep -/
def D.ok : Nat → D → Bool
  | _, .non => true | _, .bl _ => true | _, .int _ => true | _, .str x => PyData.strOk x | _, .ty _ => false | _, .ref _ => false
  | 0, .lst _ => false | 0, .tup _ => false
  | n + 1, .lst xs => D.okAll n xs | n + 1, .tup xs => D.okAll n xs | _, .ins _ _ => false | _, .nam _ _ => false | _, .exc _ _ _ _ => false | _, .er0 _ => false | _, .er1 _ _ _ => false
def D.okAll : Nat → List D → Bool
  | _, [] => true
  | n, d :: ds => d.ok n && D.okAll n ds
end
mutual
theorem D.ok_lay : ∀ (n : Nat) (d : D), d.ok n = true → d.py.canLay0 = true ∧ d.py.depth ≤ n
  | n, .non, _ => by simp [D.py, PyData.canLay0, PyData.depth]
  | n, .bl b, _ => by simp [D.py, PyData.canLay0, PyData.depth]
  | n, .int b, _ => by simp [D.py, PyData.canLay0, PyData.depth]
  | n, .str x, h => by
    have h' : PyData.strOk x = true := by cases n <;> simpa [D.ok] using h
    simp [D.py, PyData.canLay0, PyData.depth, h']
  | n, .ty _, h => by cases n <;> simp [D.ok] at h
  | n, .ref _, h => by cases n <;> simp [D.ok] at h
  | n, .ins _ _, h => by cases n <;> simp [D.ok] at h
  | n, .nam _ _, h => by cases n <;> simp [D.ok] at h
  | n, .exc _ _ _ _, h => by cases n <;> simp [D.ok] at h
  | n, .er0 _, h => by cases n <;> simp [D.ok] at h
  | n, .er1 _ _ _, h => by cases n <;> simp [D.ok] at h
  | 0, .lst _, h => by simp [D.ok] at h
  | 0, .tup _, h => by simp [D.ok] at h
  | n + 1, .lst xs, h => by
    obtain ⟨h1, h2⟩ := D.ok_layAll n xs (by simpa [D.ok] using h)
    simp [D.py, PyData.canLay0, PyData.depth, h1, h2]
  | n + 1, .tup xs, h => by
    obtain ⟨h1, h2⟩ := D.ok_layAll n xs (by simpa [D.ok] using h)
    simp [D.py, PyData.canLay0, PyData.depth, h1, h2]
theorem D.ok_layAll : ∀ (n : Nat) (ds : List D), D.okAll n ds = true → PyData.canLayAll0 (D.pyAll ds) = true ∧ PyData.depthAll (D.pyAll ds) ≤ n
  | n, [], _ => by simp [D.pyAll, PyData.canLayAll0, PyData.depthAll]
  | n, d :: ds, h => by
    simp only [D.okAll, Bool.and_eq_true] at h
    obtain ⟨h1, h2⟩ := D.ok_lay n d h.1
    obtain ⟨h3, h4⟩ := D.ok_layAll n ds h.2
    simp only [D.pyAll, PyData.canLayAll0, PyData.depthAll, h1, h3, Bool.and_self, true_and]
    omega
end
mutual
theorem Is.dp {K : PySem.W.Frag} {F H : Hp} (s : Same F H) : ∀ (n : Nat) (d : D) (v : V), d.ok n = true → Is K F v d → Dp K H v d.py
  | n, .non, v, _, h => by cases h; rw [D.py]; exact .non
  | n, .bl b, v, _, h => by cases h; rw [D.py]; exact .bl b
  | n, .int i, v, _, h => by cases h; rw [D.py]; exact .int i
  | n, .str x, v, _, h => by cases h; rw [D.py]; exact .str x
  | n, .ty _, v, o, h => by cases n <;> simp [D.ok] at o
  | n, .ref _, v, o, h => by cases n <;> simp [D.ok] at o
  | n, .ins _ _, v, o, h => by cases n <;> simp [D.ok] at o
  | n, .nam _ _, v, o, h => by cases n <;> simp [D.ok] at o
  | n, .exc _ _ _ _, v, o, h => by cases n <;> simp [D.ok] at o
  | n, .er0 _, v, o, h => by cases n <;> simp [D.ok] at o
  | n, .er1 _ _ _, v, o, h => by cases n <;> simp [D.ok] at o
  | 0, .lst _, v, o, h => by simp [D.ok] at o
  | 0, .tup _, v, o, h => by simp [D.ok] at o
  | n + 1, .lst ds, v, o, h => by
    cases h with
    | lst h1 h2 => rw [D.py]; exact .lst (.of (s _ _ h1)) (Is.dpAll s n ds _ (by simpa [D.ok] using o) h2)
  | n + 1, .tup ds, v, o, h => by
    cases h with
    | tup h1 h2 => rw [D.py]; exact .tup (.of (s _ _ h1)) (Is.dpAll s n ds _ (by simpa [D.ok] using o) h2)
theorem Is.dpAll {K : PySem.W.Frag} {F H : Hp} (s : Same F H) : ∀ (n : Nat) (ds : List D) (vs : List V), D.okAll n ds = true → IsAll K F vs ds → DpAll K H vs (D.pyAll ds)
  | n, [], _, _, h => by cases h; rw [D.pyAll]; exact .nil
  | n, d :: ds, _, o, h => by
    simp only [D.okAll, Bool.and_eq_true] at o
    cases h with
    | cons h1 h2 => rw [D.pyAll]; exact .cons (Is.dp s n d _ o.1 h1) (Is.dpAll s n ds _ o.2 h2)
end
/-- Python's == -/
def D.eq (x y : D) : Bool := PyData.eqv x.py y.py
theorem D.shaped {d : D} (h : d.ok 64 = true) : SeqAt.shaped d.py = true := by
  obtain ⟨h1, h2⟩ := D.ok_lay 64 d h
  unfold SeqAt.shaped
  rw [h1]
  simpa using h2
section
variable {X : Cx} {m : Option Mem} {env : Ev} {a b c e : Expr} {es : List Expr} {P : D → Prop} {pos : Pos}
theorem r2_eqD {K : PySem.W.Frag} {x y : D} (q : x.ok 64 = true ∧ y.ok 64 = true ∧ P (.bl (x.eq y))) : R2D K m (rEqD K) x y P := by
  obtain ⟨o1, o2, q⟩ := q
  refine ⟨fun F H v w k g hv hw t => ?_⟩
  exact ⟨_, _, hv.dp g.sub 64 x v o1, hw.dp g.sub 64 y w o2, D.shaped o1, D.shaped o2, t.at g (.bl _) q⟩
theorem r2_neD {K : PySem.W.Frag} {x y : D} (q : x.ok 64 = true ∧ y.ok 64 = true ∧ P (.bl (!x.eq y))) : R2D K m (rNeD K) x y P := by
  obtain ⟨o1, o2, q⟩ := q
  refine ⟨fun F H v w k g hv hw t => ?_⟩
  exact ⟨_, _, hv.dp g.sub 64 x v o1, hw.dp g.sub 64 y w o2, D.shaped o1, D.shaped o2, t.at g (.bl _) q⟩
theorem we_eq (hu : X.A.units + 64 < cLine) (w : WE X m env a fun x => WE X m env b fun y => x.ok 64 = true ∧ y.ok 64 = true ∧ P (.bl (x.eq y))) : WE X m env (.Compare a [.Eq] [b] pos) P :=
  we_tOp (pe_cmpR (op_eqD hu) pe_can pe_can (nomark _)) rfl (w.mono fun _ h => h.mono fun _ q => r2_eqD q)
theorem we_ne (hu : X.A.units + 64 < cLine) (w : WE X m env a fun x => WE X m env b fun y => x.ok 64 = true ∧ y.ok 64 = true ∧ P (.bl (!x.eq y))) : WE X m env (.Compare a [.NotEq] [b] pos) P :=
  we_tOp (pe_cmpR (op_neD hu) pe_can pe_can (nomark _)) rfl (w.mono fun _ h => h.mono fun _ q => r2_neD q)
/-- of ints, without a list: quick -/
theorem we_eqI (w : WE X m env a fun x => WE X m env b fun y => asInt x fun i => asInt y fun j => P (.bl (decide (i = j)))) : WE X m env (.Compare a [.Eq] [b] pos) P := by
  refine we_tOp (pe_cmpR op_eq pe_can pe_can (nomark _)) rfl (w.mono fun _ h => h.mono fun _ q => ⟨fun F H v w k g hv hw t => ?_⟩)
  obtain ⟨i, rfl, rfl, q⟩ := hv.asInt q
  obtain ⟨j, rfl, rfl, q⟩ := hw.asInt q
  refine ⟨rfl, ?_⟩
  have : decide (V.int i = V.int j) = decide (i = j) := by simp
  rw [this]
  exact t.at g (.bl _) q
theorem we_neI (w : WE X m env a fun x => WE X m env b fun y => asInt x fun i => asInt y fun j => P (.bl (!decide (i = j)))) : WE X m env (.Compare a [.NotEq] [b] pos) P := by
  refine we_tOp (pe_cmpR op_ne pe_can pe_can (nomark _)) rfl (w.mono fun _ h => h.mono fun _ q => ⟨fun F H v w k g hv hw t => ?_⟩)
  obtain ⟨i, rfl, rfl, q⟩ := hv.asInt q
  obtain ⟨j, rfl, rfl, q⟩ := hw.asInt q
  refine ⟨rfl, ?_⟩
  have : decide (V.int i = V.int j) = decide (i = j) := by simp
  rw [this]
  exact t.at g (.bl _) q
def D.isNon : D → Bool | .non => true | _ => false
theorem Is.non_iff {K : PySem.W.Frag} {F : Hp} {v : V} {d : D} (h : Is K F v d) : decide (v = .non) = d.isNon := by
  cases h <;> simp [D.isNon]
theorem we_isN {j : Nat} {p2 : Pos} (w : WE X m env a fun x => P (.bl x.isNon)) : WE X m env (.Compare a [.Is] [.Constant .none j p2] pos) P := by
  refine ⟨fun σ H0 F H k g ev t => tec (pe_cmp (pc_isN pe_can)) ?_⟩
  refine w.run σ H0 F H _ g ev fun v d F1 H1 s1 hv q => ?_
  rw [hv.non_iff]
  exact (t.after s1).at s1.good (.bl _) q
theorem we_notN {j : Nat} {p2 : Pos} (w : WE X m env a fun x => P (.bl (!x.isNon))) : WE X m env (.Compare a [.IsNot] [.Constant .none j p2] pos) P := by
  refine ⟨fun σ H0 F H k g ev t => tec (pe_cmp (pc_notN pe_can)) ?_⟩
  refine w.run σ H0 F H _ g ev fun v d F1 H1 s1 hv q => ?_
  rw [hv.non_iff]
  exact (t.after s1).at s1.good (.bl _) q
/-! ### and, or, not, chains, tests -/
theorem we_not (w : WE X m env a fun x => asBl x fun c => P (.bl (!c))) : WE X m env (.UnaryOp .Not a pos) P := by
  refine ⟨fun σ H0 F H k g ev t => tec (pe_not pe_can) ?_⟩
  refine w.run σ H0 F H _ g ev fun v d F1 H1 s1 hv q => ?_
  obtain ⟨c, rfl, rfl, q⟩ := hv.asBl q
  exact ⟨c, rfl, (t.after s1).at s1.good (.bl _) q⟩
theorem we_one {op : BoolOp} (w : WE X m env a P) : WE X m env (.BoolOp op [a] pos) P := ⟨fun σ H0 F H k g ev t => tec (pe_one pe_can) (w.run σ H0 F H k g ev t)⟩
theorem we_and {rest : List Expr} (w : WE X m env a fun x => asBl x fun c => if c = true then WE X m env (.BoolOp .And (b :: rest) pos) P else P (.bl false)) : WE X m env (.BoolOp .And (a :: b :: rest) pos) P := by
  refine ⟨fun σ H0 F H k g ev t => tec (pe_and pe_can pe_can) ?_⟩
  refine w.run σ H0 F H _ g ev fun v d F1 H1 s1 hv q => ?_
  obtain ⟨c, rfl, rfl, q⟩ := hv.asBl q
  refine ⟨c, rfl, ?_⟩
  cases c with
  | true => exact q.run σ H0 F1 H1 _ s1.good (ev.step s1) (t.after s1)
  | false => exact (t.after s1).at s1.good (.bl _) q
theorem we_or {rest : List Expr} (w : WE X m env a fun x => asBl x fun c => if c = true then P (.bl true) else WE X m env (.BoolOp .Or (b :: rest) pos) P) : WE X m env (.BoolOp .Or (a :: b :: rest) pos) P := by
  refine ⟨fun σ H0 F H k g ev t => tec (pe_or pe_can pe_can) ?_⟩
  refine w.run σ H0 F H _ g ev fun v d F1 H1 s1 hv q => ?_
  obtain ⟨c, rfl, rfl, q⟩ := hv.asBl q
  refine ⟨c, rfl, ?_⟩
  cases c with
  | false => exact q.run σ H0 F1 H1 _ s1.good (ev.step s1) (t.after s1)
  | true => exact (t.after s1).at s1.good (.bl _) q
theorem we_ifExp (w : WT X m env c fun t => if t = true then WE X m env a P else WE X m env b P) : WE X m env (.IfExp c a b pos) P := by
  refine ⟨fun σ H0 F H k g ev t => tec (pe_ifExp pt_can pe_can pe_can) ?_⟩
  refine w.run σ H0 F H _ g ev fun d F1 H1 s1 q => ?_
  cases d with
  | true => exact q.run σ H0 F1 H1 _ s1.good (ev.step s1) (t.after s1)
  | false => exact q.run σ H0 F1 H1 _ s1.good (ev.step s1) (t.after s1)
/-- a bool's value as a test -/
theorem wt_val {P : Bool → Prop} (w : WE X m env e fun x => asBl x P) (he : ∀ whole, isTrue e X.env whole = (do let v ← whole; standAt e.pos; holding [v] (truthy v))) : WT X m env e P := by
  refine ⟨fun σ H0 F H k g ev t => ttc (pt_val pe_can he) ?_⟩
  refine w.run σ H0 F H _ g ev fun v d F1 H1 s1 hv q => ?_
  obtain ⟨c, rfl, rfl, q⟩ := hv.asBl q
  exact ⟨c, rfl, (t.after s1).at s1.good q⟩
theorem wt_not {P : Bool → Prop} (w : WT X m env a fun c => P (!c)) : WT X m env (.UnaryOp .Not a pos) P := by
  refine ⟨fun σ H0 F H k g ev t => ttc (pt_not pt_can) ?_⟩
  exact w.run σ H0 F H _ g ev fun b F1 H1 s1 q => (t.after s1).at s1.good q
theorem WW.wt {P : Bool → Prop} (w : WW X m env e P) : WT X m env e P := ⟨fun σ H0 F H k g ev t => fun pins s I => w.run σ H0 F H k g ev t _ pins s I⟩
theorem ww_and1 {P : Bool → Prop} (w : WT X m env a P) : WW X m env (.BoolOp .And [a] pos) P := ⟨fun σ H0 F H k g ev t => twc (pw_and1 pt_can) (w.run σ H0 F H k g ev t)⟩
theorem ww_or1 {P : Bool → Prop} (w : WT X m env a P) : WW X m env (.BoolOp .Or [a] pos) P := ⟨fun σ H0 F H k g ev t => twc (pw_or1 pt_can) (w.run σ H0 F H k g ev t)⟩
theorem ww_and {P : Bool → Prop} {rest : List Expr} (w : WT X m env a fun c => if c = true then WW X m env (.BoolOp .And (b :: rest) pos) P else P false) : WW X m env (.BoolOp .And (a :: b :: rest) pos) P := by
  refine ⟨fun σ H0 F H k g ev t => twc (pw_and pt_can pw_can) ?_⟩
  refine w.run σ H0 F H _ g ev fun c F1 H1 s1 q => ?_
  cases c with
  | true => exact q.run σ H0 F1 H1 _ s1.good (ev.step s1) (t.after s1)
  | false => exact (t.after s1).at s1.good q
theorem ww_or {P : Bool → Prop} {rest : List Expr} (w : WT X m env a fun c => if c = true then P true else WW X m env (.BoolOp .Or (b :: rest) pos) P) : WW X m env (.BoolOp .Or (a :: b :: rest) pos) P := by
  refine ⟨fun σ H0 F H k g ev t => twc (pw_or pt_can pw_can) ?_⟩
  refine w.run σ H0 F H _ g ev fun c F1 H1 s1 q => ?_
  cases c with
  | false => exact q.run σ H0 F1 H1 _ s1.good (ev.step s1) (t.after s1)
  | true => exact (t.after s1).at s1.good q
/-- a comparison as a test -/
theorem wt_cmp {P : Bool → Prop} {op : CmpOp} {r : R2} (ho : OpR X (compareOp op) r) (hm : behindInMarks op b = false) (w : WE X m env a fun x => WE X m env b fun y => R2D X.K m r x y fun z => asBl z P) : WT X m env (.Compare a [op] [b] pos) P := by
  refine ⟨fun σ H0 F H k g ev t => ttc (pt_cmpR ho pe_can pe_can hm) ?_⟩
  refine w.run σ H0 F H _ g ev fun x dx F1 H1 s1 hx w1 => ?_
  refine w1.run σ H0 F1 H1 _ s1.good (ev.step s1) fun y dy F2 H2 s2 hy q => ?_
  refine q.run F2 H2 x y _ s2.good (hx.mono s2.fs) hy fun z dz F3 H3 s3 hz qz => ?_
  obtain ⟨c, rfl, rfl, qz⟩ := hz.asBl qz
  exact ⟨c, rfl, (((t.after s1).after s2).after s3).at s3.good qz⟩
theorem wt_lt {P : Bool → Prop} (w : WE X m env a fun x => WE X m env b fun y => asInt x fun i => asInt y fun j => P (decide (i < j))) : WT X m env (.Compare a [.Lt] [b] pos) P :=
  wt_cmp op_lt (nomark _) (w.mono fun _ h => h.mono fun _ q => r2_I0 (f' := fun i j => .bl (decide (i < j))) (fun _ _ => rfl) q)
theorem wt_le {P : Bool → Prop} (w : WE X m env a fun x => WE X m env b fun y => asInt x fun i => asInt y fun j => P (decide (i ≤ j))) : WT X m env (.Compare a [.LtE] [b] pos) P :=
  wt_cmp op_le (nomark _) (w.mono fun _ h => h.mono fun _ q => r2_I0 (f' := fun i j => .bl (decide (i ≤ j))) (fun _ _ => rfl) q)
theorem wt_gt {P : Bool → Prop} (w : WE X m env a fun x => WE X m env b fun y => asInt x fun i => asInt y fun j => P (decide (j < i))) : WT X m env (.Compare a [.Gt] [b] pos) P :=
  wt_cmp op_gt (nomark _) (w.mono fun _ h => h.mono fun _ q => r2_I0 (f' := fun i j => .bl (decide (j < i))) (fun _ _ => rfl) q)
theorem wt_ge {P : Bool → Prop} (w : WE X m env a fun x => WE X m env b fun y => asInt x fun i => asInt y fun j => P (decide (j ≤ i))) : WT X m env (.Compare a [.GtE] [b] pos) P :=
  wt_cmp op_ge (nomark _) (w.mono fun _ h => h.mono fun _ q => r2_I0 (f' := fun i j => .bl (decide (j ≤ i))) (fun _ _ => rfl) q)
theorem wt_eq {P : Bool → Prop} (hu : X.A.units + 64 < cLine) (w : WE X m env a fun x => WE X m env b fun y => x.ok 64 = true ∧ y.ok 64 = true ∧ P (x.eq y)) : WT X m env (.Compare a [.Eq] [b] pos) P :=
  wt_cmp (op_eqD hu) (nomark _) (w.mono fun _ h => h.mono fun _ q => r2_eqD q)
theorem wt_ne {P : Bool → Prop} (hu : X.A.units + 64 < cLine) (w : WE X m env a fun x => WE X m env b fun y => x.ok 64 = true ∧ y.ok 64 = true ∧ P (!x.eq y)) : WT X m env (.Compare a [.NotEq] [b] pos) P :=
  wt_cmp (op_neD hu) (nomark _) (w.mono fun _ h => h.mono fun _ q => r2_neD q)
theorem r2_eqI {K : PySem.W.Frag} {x y : D} (q : asInt x fun i => asInt y fun j => P (.bl (decide (i = j)))) : R2D K m rEq x y P := by
  refine ⟨fun F H v w k g hv hw t => ?_⟩
  obtain ⟨i, rfl, rfl, q⟩ := hv.asInt q
  obtain ⟨j, rfl, rfl, q⟩ := hw.asInt q
  refine ⟨rfl, ?_⟩
  have : decide (V.int i = V.int j) = decide (i = j) := by simp
  rw [this]
  exact t.at g (.bl _) q
theorem r2_neI {K : PySem.W.Frag} {x y : D} (q : asInt x fun i => asInt y fun j => P (.bl (!decide (i = j)))) : R2D K m rNe x y P := by
  refine ⟨fun F H v w k g hv hw t => ?_⟩
  obtain ⟨i, rfl, rfl, q⟩ := hv.asInt q
  obtain ⟨j, rfl, rfl, q⟩ := hw.asInt q
  refine ⟨rfl, ?_⟩
  have : decide (V.int i = V.int j) = decide (i = j) := by simp
  rw [this]
  exact t.at g (.bl _) q
theorem wt_eqI {P : Bool → Prop} (w : WE X m env a fun x => WE X m env b fun y => asInt x fun i => asInt y fun j => P (decide (i = j))) : WT X m env (.Compare a [.Eq] [b] pos) P :=
  wt_cmp op_eq (nomark _) (w.mono fun _ h => h.mono fun _ q => r2_eqI q)
theorem wt_neI {P : Bool → Prop} (w : WE X m env a fun x => WE X m env b fun y => asInt x fun i => asInt y fun j => P (!decide (i = j))) : WT X m env (.Compare a [.NotEq] [b] pos) P :=
  wt_cmp op_ne (nomark _) (w.mono fun _ h => h.mono fun _ q => r2_neI q)
theorem wt_isN {P : Bool → Prop} {j : Nat} {p2 : Pos} (w : WE X m env a fun x => P x.isNon) : WT X m env (.Compare a [.Is] [.Constant .none j p2] pos) P := by
  refine ⟨fun σ H0 F H k g ev t => ttc (pt_cmp (pc_isN pe_can)) ?_⟩
  refine w.run σ H0 F H _ g ev fun v d F1 H1 s1 hv q => ?_
  rw [hv.non_iff]
  exact ⟨_, rfl, (t.after s1).at s1.good q⟩
theorem wt_notN {P : Bool → Prop} {j : Nat} {p2 : Pos} (w : WE X m env a fun x => P (!x.isNon)) : WT X m env (.Compare a [.IsNot] [.Constant .none j p2] pos) P := by
  refine ⟨fun σ H0 F H k g ev t => ttc (pt_cmp (pc_notN pe_can)) ?_⟩
  refine w.run σ H0 F H _ g ev fun v d F1 H1 s1 hv q => ?_
  rw [hv.non_iff]
  exact ⟨_, rfl, (t.after s1).at s1.good q⟩
/-- a <= b <= c over ints -/
theorem we_chain {op op' : CmpOp} {f f' : Int → Int → Bool} (ho : OpR X (compareOp op) (rI0 fun i j => .bl (f i j))) (ho' : OpR X (compareOp op') (rI0 fun i j => .bl (f' i j)))
    (hp : PE X (.Compare a [op, op'] [b, c] pos) (tChain (rI0 fun i j => .bl (f i j)) (rI0 fun i j => .bl (f' i j)) (TEc X a) (TEc X b) (TEc X c)))
    (w : WE X m env a fun x => WE X m env b fun y => asInt x fun i => asInt y fun j => if f i j = true then WE X m env c fun z => asInt z fun k => P (.bl (f' j k)) else P (.bl false)) : WE X m env (.Compare a [op, op'] [b, c] pos) P := by
  refine ⟨fun σ H0 F H k g ev t => tec hp ?_⟩
  refine w.run σ H0 F H _ g ev fun x dx F1 H1 s1 hx w1 => ?_
  refine w1.run σ H0 F1 H1 _ s1.good (ev.step s1) fun y dy F2 H2 s2 hy q => ?_
  obtain ⟨i, rfl, rfl, q1⟩ := hx.asInt q
  obtain ⟨j, rfl, rfl, q2⟩ := hy.asInt q1
  refine ⟨i, j, rfl, rfl, f i j, rfl, ?_⟩
  cases e : f i j with
  | true =>
    rw [if_pos e] at q2
    rw [if_pos rfl]
    refine q2.run σ H0 F2 H2 _ s2.good ((ev.step s1).step s2) fun z dz F3 H3 s3 hz qz => ?_
    obtain ⟨n, rfl, rfl, qz⟩ := hz.asInt qz
    exact ⟨j, n, rfl, rfl, (((t.after s1).after s2).after s3).at s3.good (.bl _) qz⟩
  | false =>
    rw [if_neg (by rw [e]; exact Bool.false_ne_true)] at q2
    rw [if_neg Bool.false_ne_true]
    exact ((t.after s1).after s2).at s2.good (.bl _) q2
end
end DL
set_option Elab.async false
set_option linter.all false
set_option maxRecDepth 100000
set_option autoImplicit false
/-! DL, part 4: calls of built-ins and of defs, statements, a def's promise. -/
namespace DL
open PySem L2

abbrev as1 (ds : List D) (P : D → Prop) : Prop := match ds with | [x] => P x | _ => False
abbrev as2 (ds : List D) (P : D → D → Prop) : Prop := match ds with | [x, y] => P x y | _ => False
theorem IsAll.as1 {K : PySem.W.Frag} {F : Hp} {vs : List V} {ds : List D} (h : IsAll K F vs ds) {P : D → Prop} (q : DL.as1 ds P) : ∃ v d, vs = [v] ∧ ds = [d] ∧ Is K F v d ∧ P d := by
  cases h with
  | nil => exact q.elim
  | cons h t =>
    cases t with
    | nil => exact ⟨_, _, rfl, rfl, h, q⟩
    | cons _ _ => exact q.elim
theorem IsAll.as2 {K : PySem.W.Frag} {F : Hp} {vs : List V} {ds : List D} (h : IsAll K F vs ds) {P : D → D → Prop} (q : DL.as2 ds P) : ∃ v w d e, vs = [v, w] ∧ ds = [d, e] ∧ Is K F v d ∧ Is K F w e ∧ P d e := by
  cases h with
  | nil => exact q.elim
  | cons h t =>
    cases t with
    | nil => exact q.elim
    | cons h2 t2 =>
      cases t2 with
      | nil => exact ⟨_, _, _, _, rfl, rfl, h, h2, q⟩
      | cons _ _ => exact q.elim

/-! ### built-ins -/
structure CD (K : PySem.W.Frag) (m : Option Mem) (r : List V → Hp → VK → Prop) (ds : List D) (P : D → Prop) : Prop where
  run : ∀ F H vs k, Good K m F H → IsAll K F vs ds → Then K m F H P k → r vs H k
structure CL (K : PySem.W.Frag) (m : Option Mem) (r : List V → Hp → VK → Prop) (ds : List D) (P : List D → Prop) : Prop where
  run : ∀ F H vs k, Good K m F H → IsAll K F vs ds → ThenL K m F H P k → r vs H k
section
variable {X : Cx} {m : Option Mem} {env : Ev} {a b c e : Expr} {es : List Expr} {P : D → Prop} {pos p : Pos} {x : Str}
theorem we_cb {r : List V → Hp → VK → Prop} {id : String} (hc : CallR X (.builtin id) r) (hg : Gl X x) (hm : X.mg x = none) (hv : bootBuiltins x = some (.builtin id)) (hn : x ≠ "__name__") (hdb : (x == ("__debug__" : Str)) = false)
    (he : starEach (e :: es) X.env = (false, eval e X.env) :: starEach es X.env) (hpl : (backTo pos (starEach es X.env)).any (·.1) = false) (w : WA X m env (e :: es) fun ds => CD X.K m r ds P) : WE X m env (.Call (.Name x p) (e :: es) [] pos) P := by
  refine ⟨fun σ H0 F H k g ev t => tec (pe_callB hc hg hm hv pa_can hn hdb he hpl) ?_⟩
  exact w.run σ H0 F H _ g ev fun vs ds F1 H1 s1 hvs q => q.run F1 H1 vs k s1.good hvs (t.after s1)
theorem we_ct {r : List V → Hp → VK → Prop} {T : String} (hc : CallR X (.type T) r) (hg : Gl X x) (hm : X.mg x = none) (hv : bootBuiltins x = some (.type T)) (hn : x ≠ "__name__") (hdb : (x == ("__debug__" : Str)) = false)
    (he : starEach (e :: es) X.env = (false, eval e X.env) :: starEach es X.env) (hpl : (backTo pos (starEach es X.env)).any (·.1) = false) (w : WA X m env (e :: es) fun ds => CD X.K m r ds P) : WE X m env (.Call (.Name x p) (e :: es) [] pos) P := by
  refine ⟨fun σ H0 F H k g ev t => tec (pe_callTy hc hg hm hv pa_can hn hdb he hpl) ?_⟩
  exact w.run σ H0 F H _ g ev fun vs ds F1 H1 s1 hvs q => q.run F1 H1 vs k s1.good hvs (t.after s1)
theorem wl_cb {r : List V → Hp → VK → Prop} {id : String} {P : List D → Prop} (hc : CallR X (.builtin id) r) (hg : Gl X x) (hm : X.mg x = none) (hv : bootBuiltins x = some (.builtin id)) (hn : x ≠ "__name__") (hdb : (x == ("__debug__" : Str)) = false)
    (he : starEach (e :: es) X.env = (false, eval e X.env) :: starEach es X.env) (hpl : (backTo pos (starEach es X.env)).any (·.1) = false) (w : WA X m env (e :: es) fun ds => CL X.K m r ds P) : WL X m env (.Call (.Name x p) (e :: es) [] pos) P := by
  refine ⟨fun σ H0 F H k g ev t => tec (pe_callB hc hg hm hv pa_can hn hdb he hpl) ?_⟩
  exact w.run σ H0 F H _ g ev fun vs ds F1 H1 s1 hvs q => q.run F1 H1 vs k s1.good hvs (t.after s1 g)
theorem wl_ct {r : List V → Hp → VK → Prop} {T : String} {P : List D → Prop} (hc : CallR X (.type T) r) (hg : Gl X x) (hm : X.mg x = none) (hv : bootBuiltins x = some (.type T)) (hn : x ≠ "__name__") (hdb : (x == ("__debug__" : Str)) = false)
    (he : starEach (e :: es) X.env = (false, eval e X.env) :: starEach es X.env) (hpl : (backTo pos (starEach es X.env)).any (·.1) = false) (w : WA X m env (e :: es) fun ds => CL X.K m r ds P) : WL X m env (.Call (.Name x p) (e :: es) [] pos) P := by
  refine ⟨fun σ H0 F H k g ev t => tec (pe_callTy hc hg hm hv pa_can hn hdb he hpl) ?_⟩
  exact w.run σ H0 F H _ g ev fun vs ds F1 H1 s1 hvs q => q.run F1 H1 vs k s1.good hvs (t.after s1 g)
theorem cd_len {K : PySem.W.Frag} {ds : List D} (q : as1 ds fun x => asSeq x fun xs => P (.int xs.length)) : CD K m (fun xs H Q => ∃ p ys, xs = [.ref p] ∧ (SqL K H p ys ∨ SqT K H p ys) ∧ Q (.int ys.length) H) ds P := by
  refine ⟨fun F H vs k g hvs t => ?_⟩
  obtain ⟨v, d, rfl, rfl, hv, q⟩ := hvs.as1 q
  obtain ⟨p, xs, ds, rfl, h1, h2, q⟩ := hv.asSeq q
  refine ⟨p, xs, rfl, ?_, ?_⟩
  · rcases h1 with h1 | h1
    · exact .inl (.of (g.sub _ _ h1))
    · exact .inr (.of (g.sub _ _ h1))
  · rw [h2.length]
    exact t.at g (.int _) q
theorem cd_abs {K : PySem.W.Frag} {ds : List D} (q : as1 ds fun x => asInt x fun i => P (.int (if i < 0 then -i else i))) : CD K m (fun xs H Q => ∃ i, xs = [.int i] ∧ Q (.int (if i < 0 then -i else i)) H) ds P := by
  refine ⟨fun F H vs k g hvs t => ?_⟩
  obtain ⟨v, d, rfl, rfl, hv, q⟩ := hvs.as1 q
  obtain ⟨i, rfl, rfl, q⟩ := hv.asInt q
  exact ⟨i, rfl, t.at g (.int _) q⟩
theorem cd_max2 {K : PySem.W.Frag} {ds : List D} (q : as2 ds fun x y => asInt x fun i => asInt y fun j => P (.int (max i j))) : CD K m (fun xs H Q => ∃ i j, xs = [.int i, .int j] ∧ Q (.int (if j > i then j else i)) H) ds P := by
  refine ⟨fun F H vs k g hvs t => ?_⟩
  obtain ⟨v, w, d, e, rfl, rfl, hv, hw, q⟩ := hvs.as2 q
  obtain ⟨i, rfl, rfl, q⟩ := hv.asInt q
  obtain ⟨j, rfl, rfl, q⟩ := hw.asInt q
  refine ⟨i, j, rfl, ?_⟩
  have : (if j > i then j else i) = max i j := by split <;> omega
  rw [this]
  exact t.at g (.int _) q
theorem cd_min2 {K : PySem.W.Frag} {ds : List D} (q : as2 ds fun x y => asInt x fun i => asInt y fun j => P (.int (min i j))) : CD K m (fun xs H Q => ∃ i j, xs = [.int i, .int j] ∧ Q (.int (if j < i then j else i)) H) ds P := by
  refine ⟨fun F H vs k g hvs t => ?_⟩
  obtain ⟨v, w, d, e, rfl, rfl, hv, hw, q⟩ := hvs.as2 q
  obtain ⟨i, rfl, rfl, q⟩ := hv.asInt q
  obtain ⟨j, rfl, rfl, q⟩ := hw.asInt q
  refine ⟨i, j, rfl, ?_⟩
  have : (if j < i then j else i) = min i j := by split <;> omega
  rw [this]
  exact t.at g (.int _) q
abbrev asNum (d : D) (P : Int → Prop) : Prop := match d with | .int i => P i | .bl b => P (if b then 1 else 0) | _ => False
theorem cd_int {K : PySem.W.Frag} {ds : List D} (q : as1 ds fun x => asNum x fun i => P (.int i)) : CD K m (fun xs H Q => (∃ i, xs = [.int i] ∧ Q (.int i) H) ∨ ∃ k, xs = [.bl k] ∧ Q (.int (if k then 1 else 0)) H) ds P := by
  refine ⟨fun F H vs k g hvs t => ?_⟩
  obtain ⟨v, d, rfl, rfl, hv, q⟩ := hvs.as1 q
  cases hv <;> first | exact q.elim | skip
  · exact .inr ⟨_, rfl, t.at g (.int _) q⟩
  · exact .inl ⟨_, rfl, t.at g (.int _) q⟩
theorem cl_list {K : PySem.W.Frag} {ds : List D} {P : List D → Prop} (q : as1 ds fun x => asSeq x P) : CL K m (fun xs H Q => ∃ p ys, xs = [.ref p] ∧ (SqL K H p ys ∨ SqT K H p ys) ∧ ∀ l, H l = none → Q (.ref l) (upd H l (.lst ys))) ds P := by
  refine ⟨fun F H vs k g hvs t => ?_⟩
  obtain ⟨v, d, rfl, rfl, hv, q⟩ := hvs.as1 q
  obtain ⟨p, xs, ds, rfl, h1, h2, q⟩ := hv.asSeq q
  refine ⟨p, xs, rfl, ?_, fun l hl => t.laid g hl h2 q⟩
  rcases h1 with h1 | h1
  · exact .inl (.of (g.sub _ _ h1))
  · exact .inr (.of (g.sub _ _ h1))
theorem cd_tuple {K : PySem.W.Frag} {ds : List D} (q : as1 ds fun x => asSeq x fun ys => P (.tup ys)) : CD K m (fun xs H Q => ∃ p ys, xs = [.ref p] ∧ ((SqL K H p ys ∧ ∀ l, H l = none → Q (.ref l) (upd H l (.tup ys))) ∨ (SqT K H p ys ∧ Q (.ref p) H))) ds P := by
  refine ⟨fun F H vs k g hvs t => ?_⟩
  obtain ⟨v, d, rfl, rfl, hv, q⟩ := hvs.as1 q
  obtain ⟨p, xs, ds, rfl, h1, h2, q⟩ := hv.asSeq q
  refine ⟨p, xs, rfl, ?_⟩
  rcases h1 with h1 | h1
  · exact .inl ⟨.of (g.sub _ _ h1), fun l hl => t.laidT g hl h2 q⟩
  · exact .inr ⟨.of (g.sub _ _ h1), t.at g (.tup h1 h2) q⟩
/-- a list of ints -/
def asInts (d : D) (P : List Int → Prop) : Prop := ∃ ns : List Int, d = .lst (ns.map D.int) ∧ P ns
theorem cd_sum {K : PySem.W.Frag} {ds : List D} (q : as1 ds fun x => asInts x fun ns => P (.int ns.sum)) : CD K m (rSum K) ds P := by
  refine ⟨fun F H vs k g hvs t => ?_⟩
  obtain ⟨v, d, rfl, rfl, hv, ns, rfl, q'⟩ := hvs.as1 q
  cases hv with
  | lst h1 h2 =>
    rename_i p xs
    obtain rfl := h2.ints
    exact ⟨p, ns, rfl, .of (g.sub _ _ h1), t.at g (.int _) q'⟩
theorem cd_max {K : PySem.W.Frag} {ds : List D} (q : as1 ds fun x => asInts x fun ns => 0 < ns.length ∧ ∀ i, i ∈ ns → (∀ y ∈ ns, y ≤ i) → P (.int i)) : CD K m (rMax K) ds P := by
  refine ⟨fun F H vs k g hvs t => ?_⟩
  obtain ⟨v, d, rfl, rfl, hv, ns, rfl, q0, q⟩ := hvs.as1 q
  cases hv with
  | lst h1 h2 =>
    rename_i p xs
    obtain rfl := h2.ints
    exact ⟨p, ns, rfl, .of (g.sub _ _ h1), q0, fun i hi hle => t.at g (.int _) (q i hi hle)⟩
theorem cd_min {K : PySem.W.Frag} {ds : List D} (q : as1 ds fun x => asInts x fun ns => 0 < ns.length ∧ ∀ i, i ∈ ns → (∀ y ∈ ns, i ≤ y) → P (.int i)) : CD K m (rMin K) ds P := by
  refine ⟨fun F H vs k g hvs t => ?_⟩
  obtain ⟨v, d, rfl, rfl, hv, ns, rfl, q0, q⟩ := hvs.as1 q
  cases hv with
  | lst h1 h2 =>
    rename_i p xs
    obtain rfl := h2.ints
    exact ⟨p, ns, rfl, .of (g.sub _ _ h1), q0, fun i hi hle => t.at g (.int _) (q i hi hle)⟩
theorem cl_sorted {K : PySem.W.Frag} {ds : List D} {P : List D → Prop} (q : as1 ds fun x => asInts x fun ns => ∀ ms : List Int, ms.Perm ns → ms.Pairwise (· ≤ ·) → P (ms.map D.int)) : CL K m (rSortedI K) ds P := by
  refine ⟨fun F H vs k g hvs t => ?_⟩
  obtain ⟨v, d, rfl, rfl, hv, ns, rfl, q'⟩ := hvs.as1 q
  cases hv with
  | lst h1 h2 =>
    rename_i p xs
    obtain rfl := h2.ints
    exact ⟨p, ns, rfl, .of (g.sub _ _ h1), fun ms p hp1 hp2 hn => t.laid g hn (isAll_ints ms) (q' ms hp1 hp2)⟩
def asBls (d : D) (P : List Bool → Prop) : Prop := ∃ bs : List Bool, d = .lst (bs.map D.bl) ∧ P bs
theorem cd_all {K : PySem.W.Frag} {ds : List D} (q : as1 ds fun x => asBls x fun bs => P (.bl (bs.all id))) : CD K m (rAll K) ds P := by
  refine ⟨fun F H vs k g hvs t => ?_⟩
  obtain ⟨v, d, rfl, rfl, hv, ns, rfl, q'⟩ := hvs.as1 q
  cases hv with
  | lst h1 h2 =>
    rename_i p xs
    obtain rfl := h2.bls
    exact ⟨p, ns, rfl, .of (g.sub _ _ h1), t.at g (.bl _) q'⟩
theorem cd_any {K : PySem.W.Frag} {ds : List D} (q : as1 ds fun x => asBls x fun bs => P (.bl (bs.any id))) : CD K m (rAny K) ds P := by
  refine ⟨fun F H vs k g hvs t => ?_⟩
  obtain ⟨v, d, rfl, rfl, hv, ns, rfl, q'⟩ := hvs.as1 q
  cases hv with
  | lst h1 h2 =>
    rename_i p xs
    obtain rfl := h2.bls
    exact ⟨p, ns, rfl, .of (g.sub _ _ h1), t.at g (.bl _) q'⟩
/-- the built-in type of plain data -/
def D.tyn : D → Option String
  | .non => some "NoneType" | .bl _ => some "bool" | .int _ => some "int" | .str _ => some "str" | .lst _ => some "list" | .tup _ => some "tuple" | _ => none
theorem Is.tyx {K : PySem.W.Frag} {F H : Hp} {v : V} {d : D} (h : Is K F v d) (s : Same F H) {n : String} (e : d.tyn = some n) : TyX K H v (.type n) := by
  cases h <;> simp only [D.tyn, Option.some.injEq, reduceCtorEq] at e
  all_goals subst e
  · exact .base .non
  · exact .base (.bl _)
  · exact .base (.int _)
  · exact .base (.str _)
  · rename_i h1 _; exact .base (.lst (s _ _ h1))
  · rename_i h1 _; exact .base (.tup (s _ _ h1))
theorem cd_isi {K : PySem.W.Frag} {ds : List D} (q : as2 ds fun x c => ∃ n T r, x.tyn = some n ∧ c = .ty T ∧ kitB n T = some r ∧ P (.bl r)) : CD K m (rIsi K) ds P := by
  refine ⟨fun F H vs k g hvs t => ?_⟩
  obtain ⟨v, w, d, e, rfl, rfl, hv, hw, n, T, r, h1, rfl, h2, q⟩ := hvs.as2 q
  cases hw
  exact ⟨v, .ty T, .type n, .type T, r, rfl, .ty T, hv.tyx g.sub h1, kit_ty h2, t.at g (.bl _) q⟩

/-! ### what a def promises, over data -/
/-- m: where the bag stands, none where no draw is made -/
def spD (K : PySem.W.Frag) (m : Option Mem) (n : Nat) (A : List D → (D → Prop) → Prop) : Sp := fun vs H Q _ => vs.length = n ∧ ∃ F ds P, Good K m F H ∧ IsAll K F vs ds ∧ A ds P ∧ Then K m F H P Q
/-- its first argument is the bag -/
def spB (K : PySem.W.Frag) (n : Nat) (A : List D → (D → Prop) → Prop) : Sp := fun vs H Q E => ∃ b : Mem, vs[0]? = some (.ref b) ∧ spD K (some b) n (fun ds P => ∃ es, ds = .ref b :: es ∧ A es P) vs H Q E
theorem we_pure {k n : Nat} {f : Addr} {fd : FuncData} {ps : List Str} {A : List D → (D → Prop) → Prop} (Fn : FnOk X.prog X.w X.K X.mg X.base (L2.CX X.prog X.w) k f fd ps (spD X.K none n A)) (hr : Room k X.A) (hg : Gl X x) (hm : X.mg x = some (.ref f)) (hk : PySem.W.keepIn X.K (.ref f) = true)
    (hb : Binds X.K fd ps []) (hdb : (x == ("__debug__" : Str)) = false) (he : starEach (e :: es) X.env = (false, eval e X.env) :: starEach es X.env) (hpl : (backTo pos (starEach es X.env)).any (·.1) = false) (w : WA X m env (e :: es) fun ds => ds.length = n ∧ A ds P) :
    WE X m env (.Call (.Name x p) (e :: es) [] pos) P := by
  refine ⟨fun σ H0 F H k g ev t => tec (pe_call Fn hr hg hm hk hb .nil passL pa_can hdb he hpl) ?_⟩
  refine w.run σ H0 F H _ g ev fun vs ds F1 H1 s1 hvs q => ?_
  rw [List.append_nil]
  exact ⟨by rw [hvs.length]; exact q.1, F1, ds, P, s1.good.any, hvs, q.2, fun v d F2 H2 s2 hv hP => t v d F2 H2 (s1.trans (s2.any s1.good)) hv hP⟩
theorem we_bag {k n : Nat} {b : Mem} {f : Addr} {fd : FuncData} {ps : List Str} {A : List D → (D → Prop) → Prop} (Fn : FnOk X.prog X.w X.K X.mg X.base (L2.CX X.prog X.w) k f fd ps (spB X.K n A)) (hr : Room k X.A) (hg : Gl X x) (hm : X.mg x = some (.ref f)) (hk : PySem.W.keepIn X.K (.ref f) = true)
    (hb : Binds X.K fd ps []) (hdb : (x == ("__debug__" : Str)) = false) (he : starEach (e :: es) X.env = (false, eval e X.env) :: starEach es X.env) (hpl : (backTo pos (starEach es X.env)).any (·.1) = false)
    (w : WA X (some b) env (e :: es) fun ds => ds.length = n ∧ ∃ es, ds = .ref b :: es ∧ A es P) : WE X (some b) env (.Call (.Name x p) (e :: es) [] pos) P := by
  refine ⟨fun σ H0 F H k g ev t => tec (pe_call Fn hr hg hm hk hb .nil passL pa_can hdb he hpl) ?_⟩
  refine w.run σ H0 F H _ g ev fun vs ds F1 H1 s1 hvs q => ?_
  rw [List.append_nil]
  obtain ⟨hl, es', rfl, hA⟩ := q
  refine ⟨b, ?_, by rw [hvs.length]; exact hl, F1, _, P, s1.good, hvs, ⟨es', rfl, hA⟩, fun v d F2 H2 s2 hv hP => t v d F2 H2 (s1.trans s2) hv hP⟩
  cases hvs with
  | cons h1 h2 => cases h1; rfl

/-! ### fields, methods -/
/-- e.f of an instance whose attributes stay -/
theorem we_fld {f : Str} (hb : attributeBase e f X.env (eval e X.env) = eval e X.env) (w : WE X m env e fun x => ∃ C fs d, x = .ins C fs ∧ Cls X.K C ∧ NoAttr X.K C f ∧ fs.lookup f = some d ∧ P d) : WE X m env (.Attribute e f pos) P := by
  refine ⟨fun σ H0 F H k g ev t => tec (pe_fld pe_can hb) ?_⟩
  refine w.run σ H0 F H _ g ev fun v d F1 H1 s1 hv q => ?_
  obtain ⟨C, fs, d', rfl, hc, hn, hl, hP⟩ := q
  cases hv with
  | ins h1 h2 h3 =>
    rename_i a dx gs
    have aux : ∀ (gs : List (Str × V)) (fs : List (Str × D)), gs.map (·.1) = fs.map (·.1) → IsAll X.K F1 (gs.map (·.2)) (fs.map (·.2)) → fs.lookup f = some d' → ∃ u, gs.lookup f = some u ∧ Is X.K F1 u d' := by
      intro gs
      induction gs with
      | nil =>
        intro fs h2 h3 hl
        cases fs with
        | nil => cases hl
        | cons _ _ => cases h2
      | cons g gs ih =>
        intro fs h2 h3 hl
        cases fs with
        | nil => cases h2
        | cons p fs =>
          obtain ⟨gn, gv⟩ := g
          obtain ⟨pn, pd⟩ := p
          rw [List.map_cons, List.map_cons] at h2 h3
          injection h2 with e1 e2
          simp only at e1
          subst e1
          cases h3 with
          | cons i1 i2 =>
            rw [List.lookup_cons] at hl ⊢
            cases hb : (f == gn) with
            | true =>
              rw [hb] at hl
              cases hl
              exact ⟨gv, rfl, i1⟩
            | false =>
              rw [hb] at hl
              exact ih fs e2 i2 hl
    obtain ⟨u, hu, iu⟩ := aux gs fs h2 h3 hl
    exact ⟨a, C, dx, gs, u, rfl, s1.good.sub _ _ h1, hc, hn, hu, (t.after s1).at s1.good iu hP⟩
end
end DL
set_option Elab.async false
set_option linter.all false
set_option maxRecDepth 100000
set_option autoImplicit false
/-! DL, part 5: comprehensions, statements, loops, a def's promise. -/
namespace DL
open PySem L2

section
variable {K : PySem.W.Frag} {m : Option Mem} {F F' H H' F1 H1 : Hp} {p : Addr}
theorem Step.noF (s : Step K m F H F' H') (hF : F p = none) (h : ∃ o, H p = some o) : F' p = none := by
  obtain ⟨o, h⟩ := h
  cases e : F' p with
  | none => rfl
  | some u => exact absurd (s.new p hF (by rw [e]; exact fun z => nomatch z)) (by rw [h]; exact fun z => nomatch z)
/-- a step, and then an object that the beginning did not know changes -/
theorem Step.mut (s : Step K m F H F' H') {o : HO} (hF : F' p = none) (hm : ¬ Touch m p) (hp : H p = none) : Step K m F H F' (upd H' p o) :=
  ⟨s.fs, s.good.mut hF hm, s.new, fun a u ha h => by rw [upd_ne (ne_of_none h hp)]; exact s.keep a u ha h⟩
end

/-! ### comprehensions: one for, no if -/
/-- the reading of an element, whatever block it stands in -/
def TBc (X : Cx) (scope : Scope) (e : Expr) : TE := fun σ H Q => ∀ (s : Shared) (H0 : Hp) (C : Addr) (cl : List (Str × Addr)) (fp : List Addr), TEc (X.blk s H0 scope (compEnvC scope cl C X.env) fp) e σ H Q
/-- an element's data, whatever block it stands in -/
structure WB (X : Cx) (m : Option Mem) (env : Ev) (scope : Scope) (e : Expr) (P : D → Prop) : Prop where
  at_ : ∀ (s : Shared) (H0 : Hp) (C : Addr) (cl : List (Str × Addr)) (fp : List Addr), WE (X.blk s H0 scope (compEnvC scope cl C X.env) fp) m env e P
section
variable {X : Cx} {m : Option Mem} {env : Ev} {a b c e elt iter tg : Expr} {es : List Expr} {pos p2 : Pos} {scope : Scope} {x : Str} {t : Nat}
/-- what is made so far: the list at L -/
def CompI (K : PySem.W.Frag) (m : Option Mem) (F1 H1 : Hp) (L : Addr) (Pi : Nat → D → Prop) (i : Nat) (H : Hp) : Prop :=
  ∃ F' acc ds, Step K m F1 H1 F' H ∧ F' L = none ∧ H L = some (.lst acc) ∧ IsAll K F' acc ds ∧ ds.length = i ∧ ∀ (j : Nat) (d : D), ds[j]? = some d → Pi j d
theorem comp_turn {σ : L2.St} {H0 F1 H1 : Hp} {L : Addr} {Pi : Nat → D → Prop} {i : Nat} {H : Hp} {v : V} {d : D} (ev : Envs X.K m H0 F1 H1 σ env) (hL : H1 L = none) (hm : ¬ Touch m L) (hi : i < 1000000) (I : CompI X.K m F1 H1 L Pi i H) (hv : ∀ F', Same F1 F' → Is X.K F' v d)
    (w : WB X m ((env.set t none).set t (some (.frz d))) scope elt (Pi i)) :
    gName t v (wipe σ [t]) H fun σ2 H2 => wipe σ2 [t] = wipe σ [t] ∧ tYes σ2 H2 fun b H3 => if b = true then TBc X scope elt σ2 H3 fun y H4 => ∃ acc, H4 L = some (.lst acc) ∧ acc.length < sizeLine ∧ CompI X.K m F1 H1 L Pi (i + 1) (upd H4 L (.lst (acc ++ [y]))) else CompI X.K m F1 H1 L Pi (i + 1) H3 := by
  obtain ⟨F', acc, ds, s1, hF, hL2, ha, hl, hP⟩ := I
  unfold gName
  refine ⟨by show ((σ.set t none).set t (some v)).set t none = σ.set t none; rw [List.set_set, List.set_set], ?_⟩
  unfold tYes
  dsimp only
  rw [if_pos rfl]
  intro s H0' C cl fp
  have ev2 : Envs X.K m H0 F' H ((σ.set t none).set t (some v)) ((env.set t none).set t (some (.frz d))) := ((ev.step s1).wipe).frz (hv F' s1.fs)
  refine (w.at_ s H0' C cl fp).run _ H0 F' H _ s1.good ev2 fun y dy F2 H2 s2 hy hPy => ?_
  have hL3 : H2 L = some (.lst acc) := s2.keep L _ hm hL2
  have hF2 := s2.noF hF ⟨_, hL2⟩
  refine ⟨acc, hL3, ?_, F2, acc ++ [y], ds ++ [dy], (s1.trans s2).mut hF2 hm hL, hF2, upd_same, (ha.mono s2.fs).append (.cons hy .nil), ?_, fun j e he => ?_⟩
  · rw [ha.length, hl, sizeLine_eq]; omega
  · rw [List.length_append, hl]; rfl
  · rcases Nat.lt_or_ge j ds.length with hj | hj
    · rw [List.getElem?_append_left hj] at he
      exact hP j e he
    · rw [List.getElem?_append_right hj] at he
      have e0 : j - ds.length = 0 := by
        rcases Nat.eq_zero_or_pos (j - ds.length) with z | z
        · exact z
        · rw [List.getElem?_eq_none (by simp; omega)] at he; cases he
      rw [e0] at he
      have : j = i := by omega
      subst this
      cases he
      exact hPy
theorem comp_start {σ : L2.St} {F1 H1 : Hp} {L : Addr} {Pi : Nat → D → Prop} (g : Good X.K m F1 H1) (hL : H1 L = none) : CompI X.K m F1 H1 L Pi 0 (upd H1 L (.lst [])) :=
  ⟨F1, [], [], g.fresh hL, g.noF hL, upd_same, .nil, rfl, fun j d h => by simp at h⟩
theorem comp_end {F H F1 H1 : Hp} {L : Addr} {Pi : Nat → D → Prop} {n : Nat} {H2 : Hp} {P : List D → Prop} {k : VK} (g : Good X.K m F H) (s : Step X.K m F H F1 H1) (hL : H1 L = none) (I : CompI X.K m F1 H1 L Pi n H2) (t : ThenL X.K m F H P k)
    (h : ∀ es : List D, es.length = n → (∀ (i : Nat) (e : D), es[i]? = some e → Pi i e) → P es) : k (.ref L) H2 := by
  obtain ⟨F', acc, ds, s1, hF, hL2, ha, hl, hP⟩ := I
  exact t L acc ds F' H2 (fresh_before s g hL) hF (s.trans s1) hL2 ha (h ds hl hP)
/-- over a list or a tuple -/
theorem wl_comp (t : Nat) (own : List (Str × Nat)) (hown : own.map (·.2) = [t]) (hc : X.calm = true) (hN : X.N.Nodup) (ok : BlkOk X.N X.env.scope scope own) (hg : ∀ (s : Shared) (H : Hp) (C : Addr) (cl : List (Str × Addr)) (fp : List Addr), PG (X.blk s H scope (compEnvC scope cl C X.env) fp) tg (gName t))
    (hs : ∀ x, foldedSetIterable iter X.env x = pure x) {P : List D → Prop}
    (w : WE X m env iter fun x => asLst x fun ds => ds.length ≤ 1000000 ∧ ∃ Pi : Nat → D → Prop, (∀ (i : Nat) (d : D), ds[i]? = some d → WB X m ((env.set t none).set t (some (.frz d))) scope elt (Pi i)) ∧ ∀ es : List D, es.length = ds.length → (∀ (i : Nat) (e : D), es[i]? = some e → Pi i e) → P es) :
    WL X m env (.ListComp elt [⟨tg, iter, [], 0⟩] scope pos) P := by
  refine ⟨fun σ H0 F H k g ev th => tec (pe_lc (te := TBc X scope elt) hc hN (pi_list pe_can) ok hg (fun _ _ _ _ _ => pts_nil) (fun s H C cl fp => ⟨fun pins s2 σ2 H2 Q I h => h s H C cl fp pins s2 I⟩) hs) ?_⟩
  refine w.run σ H0 F H _ g ev fun v d F1 H1 s1 hv q => ?_
  obtain ⟨p, xs, ds, rfl, rfl, h1, h2, hz, Pi, hP, hQ⟩ := hv.asLst q
  have h1' := s1.good.sub _ _ h1
  refine ⟨p, rfl, ⟨xs, .of h1'⟩, fun L hL => ?_⟩
  rw [hown]
  have hpL : p ≠ L := ne_of_none h1' hL
  refine lc_list (K := X.K) (a := p) (xs := xs) (CompI X.K m F1 H1 L Pi) (comp_start (σ := σ) s1.good hL) (fun i H2 hi I => ?_) (fun i v H2 hi I => ?_) fun H2 I => ?_
  · obtain ⟨F', acc, es, s2, _⟩ := I
    exact .of (s2.good.sub _ _ (s2.fs _ _ h1))
  · obtain ⟨d, hd, iv⟩ := h2.getV hi
    have hlt : i < ds.length := (List.getElem?_eq_some_iff.mp hd).1
    exact comp_turn (ev.step s1) hL (s1.good.notm hL) (by omega) I (fun F' sm => iv.mono sm) (hP i d hd)
  · exact comp_end g s1 hL (by rw [← h2.length]; exact I) th hQ
/-- over range(n), range(a, b) -/
theorem wl_compR (t : Nat) (own : List (Str × Nat)) (hown : own.map (·.2) = [t]) (hc : X.calm = true) (hN : X.N.Nodup) (ok : BlkOk X.N X.env.scope scope own) (hg : ∀ (s : Shared) (H : Hp) (C : Addr) (cl : List (Str × Addr)) (fp : List Addr), PG (X.blk s H scope (compEnvC scope cl C X.env) fp) tg (gName t))
    (hrg : Gl X "range") (hrm : X.mg "range" = none) (hst : starEach [a] X.env = [(false, eval a X.env)]) {pr : Pos}
    (hs : ∀ x, foldedSetIterable (.Call (.Name "range" p2) [a] [] pr) X.env x = pure x) {P : List D → Prop}
    (w : WE X m env a fun x => asInt x fun n => (-1000000 ≤ n ∧ n ≤ 1000000) ∧ ∃ Pi : Nat → D → Prop, (∀ (i : Nat), (i : Int) < n → WB X m ((env.set t none).set t (some (.frz (.int i)))) scope elt (Pi i)) ∧ ∀ es : List D, es.length = n.toNat → (∀ (i : Nat) (e : D), es[i]? = some e → Pi i e) → P es) :
    WL X m env (.ListComp elt [⟨tg, .Call (.Name "range" p2) [a] [] pr, [], 0⟩] scope pos) P := by
  refine ⟨fun σ H0 F H k g ev th => tec (pe_lc (te := TBc X scope elt) hc hN (pi_range1 hrg hrm (pa_cons pe_can pa_nil hst) hst) ok hg (fun _ _ _ _ _ => pts_nil) (fun s H C cl fp => ⟨fun pins s2 σ2 H2 Q I h => h s H C cl fp pins s2 I⟩) hs) ?_⟩
  refine w.run σ H0 F H _ g ev fun v d F1 H1 s1 hv q => ?_
  obtain ⟨n, rfl, rfl, hz, Pi, hP, hQ⟩ := hv.asInt q
  refine ⟨n, rfl, by omega, by omega, fun L hL => ?_⟩
  rw [hown]
  refine lc_range (CompI X.K m F1 H1 L Pi) (comp_start (σ := σ) s1.good hL) (fun i H2 hi I => ?_) fun H2 I => ?_
  · have hlt : (i : Int) < n := by omega
    have e0 : ((0 : Int) + (i : Int)) = (i : Int) := by omega
    rw [e0]
    exact comp_turn (ev.step s1) hL (s1.good.notm hL) (by omega) I (fun F' sm => .int _) (hP i hlt)
  · exact comp_end g s1 hL I th hQ
end
end DL
set_option Elab.async false
set_option linter.all false
set_option maxRecDepth 100000
set_option autoImplicit false
/-! DL, part 6: statements, loops, a def's promise. -/
namespace DL
open PySem L2

def TSc (X : Cx) (st : Stmt) : TS := fun De σ H => ∀ pins s, Inv X pins σ H s → wpAny (model X.prog X.w) X.A (exec st X.env) (SP X pins De) X.xe s
theorem ps_can {X : Cx} {st : Stmt} : PS X st (TSc X st) := ⟨fun pins s _ _ _ I h => h pins s I⟩
theorem tsc {X : Cx} {st : Stmt} {t : TS} (h : PS X st t) {De : Ends} {σ : L2.St} {H : Hp} (q : t De σ H) : TSc X st De σ H := fun pins s I => h.run pins s σ H De I q
def TSsc (X : Cx) (st : List Stmt) : TS := fun De σ H => ∀ pins s, Inv X pins σ H s → wpAny (model X.prog X.w) X.A (execs st X.env) (SP X pins De) X.xe s
theorem pss_can {X : Cx} {st : List Stmt} : PSs X st (TSsc X st) := ⟨fun pins s _ _ _ I h => h pins s I⟩
theorem tssc {X : Cx} {st : List Stmt} {t : TS} (h : PSs X st t) {De : Ends} {σ : L2.St} {H : Hp} (q : t De σ H) : TSsc X st De σ H := fun pins s I => h.run pins s σ H De I q

/-- what is wanted behind a statement, over data; ex: of an exception (its class, its fields) -/
structure DEnds where
  nx : Ev → Prop
  rt : D → Ev → Prop
  bk : Ev → Prop := fun _ => False
  ct : Ev → Prop := fun _ => False
  ex : Addr → List (Str × D) → Ev → Prop := fun _ _ _ => False
structure Sta (K : PySem.W.Frag) (m : Option Mem) (F0 H0 Fl F H : Hp) (σ : L2.St) (env : Ev) : Prop where
  step : Step K m F0 H0 F H
  env : Envs K m H0 F H σ env
  fl : Same Fl F
/-- an exception's own dict -/
def ExIs (K : PySem.W.Frag) (H0 F H : Hp) (d : Option Addr) (fs : List (Str × D)) : Prop := match d with
  | none => fs = []
  | some a => fs ≠ [] ∧ H0 a = none ∧ F a = none ∧ ∃ gs, H a = some (.xd gs) ∧ gs.map (·.1) = fs.map (·.1) ∧ IsAll K F (gs.map (·.2)) (fs.map (·.2))
theorem Step.none0 {K : PySem.W.Frag} {m : Option Mem} {F0 H0 F H : Hp} (s : Step K m F0 H0 F H) {a : Addr} (h : H a = none) : H0 a = none := by
  cases e : H0 a with
  | none => rfl
  | some o =>
    by_cases hm : Touch m a
    · obtain ⟨u, hu⟩ := s.good.touch hm
      rw [hu] at h; cases h
    · rw [s.keep a o hm e] at h; cases h
theorem ExIs.imp {K : PySem.W.Frag} {H0 H1 F H : Hp} {d : Option Addr} {fs : List (Str × D)} (h : ExIs K H1 F H d fs) (i : ∀ a, H1 a = none → (∃ gs, H a = some (.xd gs)) → H0 a = none) : ExIs K H0 F H d fs := by
  cases d with
  | none => exact h
  | some a =>
    obtain ⟨h1, h2, h3, gs, h4, h5⟩ := h
    exact ⟨h1, i a h2 ⟨gs, h4⟩, h3, gs, h4, h5⟩
theorem ExIs.back {K : PySem.W.Frag} {m : Option Mem} {F0 H0 F1 H1 F H : Hp} {d : Option Addr} {fs : List (Str × D)} (h : ExIs K H1 F H d fs) (s : Step K m F0 H0 F1 H1) : ExIs K H0 F H d fs := h.imp fun a z _ => s.none0 z
structure EndsOk (X : Cx) (m : Option Mem) (F0 H0 Fl : Hp) (R : DEnds) (De : Ends) (W : WX) : Prop where
  nx : ∀ σ env F H, Sta X.K m F0 H0 Fl F H σ env → R.nx env → De.nx σ H
  rt : ∀ v d σ env F H, Sta X.K m F0 H0 Fl F H σ env → Is X.K F v d → R.rt d env → De.rt v H
  bk : ∀ σ env F H, Sta X.K m F0 H0 Fl F H σ env → R.bk env → De.bk σ H
  ct : ∀ σ env F H, Sta X.K m F0 H0 Fl F H σ env → R.ct env → De.ct σ H
  tk : Takes X W
  ex : ∀ σ env F H C d fs, Sta X.K m F0 H0 Fl F H σ env → ExIs X.K H0 F H d fs → R.ex C fs env → W (.ref C) d σ H
structure WS (X : Cx) (m : Option Mem) (env : Ev) (st : Stmt) (R : DEnds) : Prop where
  run : ∀ σ F0 H0 Fl F H De W, Sta X.K m F0 H0 Fl F H σ env → EndsOk X m F0 H0 Fl R De W → TSc X st De σ H
structure WSs (X : Cx) (m : Option Mem) (env : Ev) (st : List Stmt) (R : DEnds) : Prop where
  run : ∀ σ F0 H0 Fl F H De W, Sta X.K m F0 H0 Fl F H σ env → EndsOk X m F0 H0 Fl R De W → TSsc X st De σ H

section
variable {X : Cx} {m : Option Mem} {env : Ev} {a b c e iter : Expr} {es : List Expr} {pos p2 p3 : Pos} {R : DEnds} {st : Stmt} {rest body els : List Stmt} {x : Str}
theorem Sta.good {K : PySem.W.Frag} {F0 H0 Fl F H : Hp} {σ : L2.St} (s : Sta K m F0 H0 Fl F H σ env) : Good K m F H := s.step.good
theorem Sta.after {K : PySem.W.Frag} {F0 H0 Fl F H F' H' : Hp} {σ : L2.St} (s : Sta K m F0 H0 Fl F H σ env) (t : Step K m F H F' H') : Sta K m F0 H0 Fl F' H' σ env := ⟨s.step.trans t, s.env.step t, s.fl.trans t.fs⟩
theorem Sta.floor {K : PySem.W.Frag} {F0 H0 Fl Fl' F H : Hp} {σ : L2.St} (s : Sta K m F0 H0 Fl F H σ env) (h : Same Fl' Fl) : Sta K m F0 H0 Fl' F H σ env := ⟨s.step, s.env, h.trans s.fl⟩
theorem EndsOk.of_nx {F0 H0 Fl : Hp} {De : Ends} {W : WX} {R' : DEnds} (o : EndsOk X m F0 H0 Fl R De W) {N : L2.St → Hp → Prop} (h : ∀ σ env F H, Sta X.K m F0 H0 Fl F H σ env → R'.nx env → N σ H)
    (e1 : R'.rt = R.rt) (e2 : R'.bk = R.bk) (e3 : R'.ct = R.ct) (e4 : R'.ex = R.ex) : EndsOk X m F0 H0 Fl R' { De with nx := N } W := by
  obtain ⟨n', r', b', c', x'⟩ := R'
  simp only at e1 e2 e3 e4
  subst e1 e2 e3 e4
  exact ⟨h, o.rt, o.bk, o.ct, o.tk, o.ex⟩
theorem wss_nil (h : R.nx env) : WSs X m env [] R := ⟨fun σ F0 H0 Fl F H De W s o => tssc pss_nil (o.nx σ env F H s h)⟩
theorem wss_cons (h : WS X m env st { R with nx := fun env' => WSs X m env' rest R }) : WSs X m env (st :: rest) R := by
  refine ⟨fun σ F0 H0 Fl F H De W s o => tssc (pss_cons ps_can pss_can) ?_⟩
  show TSc X st { De with nx := TSsc X rest De } σ H
  refine h.run σ F0 H0 Fl F H _ W s (o.of_nx (fun σ' env' F' H' s' w => w.run σ' F0 H0 Fl F' H' De W s' o) rfl rfl rfl rfl)
theorem wss_one (h : WS X m env st R) : WSs X m env [st] R := wss_cons ⟨fun σ F0 H0 Fl F H De W s o => h.run σ F0 H0 Fl F H De W s ⟨fun σ' env' F' H' s' w => o.nx σ' env' F' H' s' (wss_nil w), o.rt, o.bk, o.ct, o.tk, o.ex⟩ |> fun z => z⟩

theorem ws_pass (h : R.nx env) : WS X m env (.Pass pos) R := ⟨fun σ F0 H0 Fl F H De W s o => tsc ps_pass (o.nx σ env F H s h)⟩
theorem ws_break (h : R.bk env) : WS X m env (.Break pos) R := ⟨fun σ F0 H0 Fl F H De W s o => tsc ps_break (o.bk σ env F H s h)⟩
theorem ws_continue (h : R.ct env) : WS X m env (.Continue pos) R := ⟨fun σ F0 H0 Fl F H De W s o => tsc ps_continue (o.ct σ env F H s h)⟩
theorem ws_ret (h : WE X m env e fun d => R.rt d env) : WS X m env (.Return (some e) pos) R := by
  refine ⟨fun σ F0 H0 Fl F H De W s o => tsc (ps_ret pe_can) ?_⟩
  exact h.run σ H0 F H _ s.good s.env fun v d F1 H1 s1 hv q => o.rt v d σ env F1 H1 (s.after s1) hv q
theorem ws_retN (h : R.rt .non env) : WS X m env (.Return none pos) R := ⟨fun σ F0 H0 Fl F H De W s o => tsc ps_retN (o.rt .non .non σ env F H s .non h)⟩
/-- return of the frame's own list -/
theorem ws_retOwn (i : Nat) {q0 : Addr} {ds : List D} (hN : X.N[i]? = some x) (hv : Vis X.env.scope x) (hd : (x == ("__debug__" : Str)) = false) (hcd : (x == ("__classdict__" : Str)) = false) (he : env[i]? = some (some (.own q0 (.lst ds)))) (h : R.rt (.lst ds) (env.set i (some (.frz (.lst ds))))) : WS X m env (.Return (some (.Name x p2)) pos) R := by
  refine ⟨fun σ F0 H0 Fl F H De W s o => tsc (ps_ret (pe_var hN hv hd hcd)) ?_⟩
  obtain ⟨xs, hσ, hm, hF, h0, hH, ha, g', ev'⟩ := s.env.freeze s.good he
  refine ⟨.ref q0, hσ, o.rt _ _ σ _ (upd F q0 (.lst xs)) H ⟨⟨s.step.fs.trans (same_upd hF), g', fun q h1 h2 => ?_, s.step.keep⟩, ev', s.fl.trans (same_upd hF)⟩ (.lst upd_same (ha.mono (same_upd hF))) h⟩
  by_cases hq : q = q0
  · subst hq; exact h0
  · rw [upd_ne hq] at h2; exact s.step.new q h1 h2
/-- the frame's own list at slot i stays from now on -/
theorem wss_freeze (i : Nat) {q0 : Addr} {ds : List D} (he : env[i]? = some (some (.own q0 (.lst ds)))) (h : WSs X m (env.set i (some (.frz (.lst ds)))) rest R) : WSs X m env rest R := by
  refine ⟨fun σ F0 H0 Fl F H De W s o => ?_⟩
  obtain ⟨xs, hσ, hm, hF, h0, hH, ha, g', ev'⟩ := s.env.freeze s.good he
  refine h.run σ F0 H0 Fl (upd F q0 (.lst xs)) H De W ⟨⟨s.step.fs.trans (same_upd hF), g', fun q h1 h2 => ?_, s.step.keep⟩, ev', s.fl.trans (same_upd hF)⟩ o
  by_cases hq : q = q0
  · subst hq; exact h0
  · rw [upd_ne hq] at h2; exact s.step.new q h1 h2
theorem ws_expr (h : WE X m env e fun _ => R.nx env) (hs : swapsWith e none pos.line X.env = pure false) : WS X m env (.Expr e pos) R := by
  refine ⟨fun σ F0 H0 Fl F H De W s o => tsc (ps_expr pe_can hs) ?_⟩
  exact h.run σ H0 F H _ s.good s.env fun v d F1 H1 s1 hv q => o.nx σ env F1 H1 (s.after s1) q
theorem ws_if (h : WT X m env c fun t => if t = true then WSs X m env body R else WSs X m env els R) : WS X m env (.If c body els pos) R := by
  refine ⟨fun σ F0 H0 Fl F H De W s o => tsc (ps_if pt_can pss_can pss_can) ?_⟩
  refine h.run σ H0 F H _ s.good s.env fun t F1 H1 s1 q => ?_
  cases t with
  | true => exact q.run σ F0 H0 Fl F1 H1 De W (s.after s1) o
  | false => exact q.run σ F0 H0 Fl F1 H1 De W (s.after s1) o
theorem ws_set (i : Nat) (hN : X.N.Nodup) (hi : X.N[i]? = some x) (hx : Loc X.env.scope x) (hf : X.fn x = true ∨ X.env.scope.names.lookup x = some .local) (hs : swapsWith e (some (.Name x p2)) pos.line X.env = pure false)
    (h : WE X m env e fun d => R.nx (env.set i (some (.frz d)))) : WS X m env (.Assign [.Name x p2] e pos) R := by
  refine ⟨fun σ F0 H0 Fl F H De W s o => tsc (ps_set hN hi hx pe_can hs hf) ?_⟩
  refine h.run σ H0 F H _ s.good s.env fun v d F1 H1 s1 hv q => ?_
  exact o.nx _ _ F1 H1 ⟨s.step.trans s1, (s.env.step s1).frz hv, s.fl.trans s1.fs⟩ q
/-- name = a new list that this frame will change -/
theorem ws_setL (i : Nat) (hN : X.N.Nodup) (hi : X.N[i]? = some x) (hx : Loc X.env.scope x) (hf : X.fn x = true ∨ X.env.scope.names.lookup x = some .local) (hs : swapsWith e (some (.Name x p2)) pos.line X.env = pure false)
    (h : WL X m env e fun ds => ∀ p, R.nx (env.set i (some (.own p (.lst ds))))) : WS X m env (.Assign [.Name x p2] e pos) R := by
  refine ⟨fun σ F0 H0 Fl F H De W s o => tsc (ps_set hN hi hx pe_can hs hf) ?_⟩
  refine h.run σ H0 F H _ s.good s.env fun p xs ds F1 H1 hp hF s1 hH ha q => ?_
  have h0 : H0 p = none := by
    cases e : H0 p with
    | none => rfl
    | some u => rw [s.step.keep p u (s.good.notm hp) e] at hp; cases hp
  exact o.nx _ _ F1 H1 ⟨s.step.trans s1, s.env.ownL s.good s1 hp h0 hF hH (.ofL ha), s.fl.trans s1.fs⟩ (q p)
/-- x.append(e), x a list of the frame's own -/
theorem ws_append (i : Nat) {p4 : Pos} (hN : X.N[i]? = some x) (hv : Vis X.env.scope x) (hd : (x == ("__debug__" : Str)) = false) (hcd : (x == ("__classdict__" : Str)) = false)
    (hbm : ∀ {to : TE} {t : TA}, PE X (.Name x p2) to → PA X [e] t → PE X (.Call (.Attribute (.Name x p2) "append" p3) [e] [] p4) (tBM X.K "list" rAppend to t)) (hst : starEach [e] X.env = [(false, eval e X.env)])
    (hs : swapsWith (.Call (.Attribute (.Name x p2) "append" p3) [e] [] p4) none pos.line X.env = pure false)
    {q0 : Addr} {ds : List D} (hds : env[i]? = some (some (.own q0 (.lst ds)))) (hl : ds.length < 1000000) (h : WE X m env e fun d => R.nx (env.set i (some (.own q0 (.lst (ds ++ [d])))))) : WS X m env (.Expr (.Call (.Attribute (.Name x p2) "append" p3) [e] [] p4) pos) R := by
  refine ⟨fun σ F0 H0 Fl F H De W s o => tsc (ps_expr (hbm (pe_var hN hv hd hcd) (pa_cons pe_can pa_nil hst)) hs) ?_⟩
  obtain ⟨v, hσ, ho, rfl, hm, hF, h0, hH, xs, rfl, ha⟩ := s.env.at_ i _ hds
  refine ⟨.ref q0, hσ, .inl ⟨rfl, xs, .of hH⟩, ?_⟩
  refine h.run σ H0 F H _ s.good s.env fun v d F1 H1 s1 hv q => ?_
  have hH1 : H1 q0 = some (.lst xs) := s1.keep q0 _ hm hH
  have hF1 := s1.noF hF ⟨_, hH⟩
  refine ⟨q0, xs, v, rfl, rfl, hH1, by rw [ha.length, sizeLine_eq]; omega, ?_⟩
  exact o.nx _ _ F1 _ ⟨(s.step.trans s1).mut hF1 hm h0, (s.env.step s1).mut hds (.ofL ((ha.mono s1.fs).append (.cons hv .nil))), s.fl.trans s1.fs⟩ q
end


/-! ### a list of the frame's own, read and changed -/
section
variable {X : Cx} {m : Option Mem} {env : Ev} {a b c e iter : Expr} {es : List Expr} {pos p2 p3 p4 : Pos} {R : DEnds} {x : Str} {P : D → Prop}
/-- x[i] of it -/
theorem we_ixOwn (i : Nat) {q0 : Addr} {ds : List D} (hN : X.N[i]? = some x) (hv : Vis X.env.scope x) (hd : (x == ("__debug__" : Str)) = false) (hcd : (x == ("__classdict__" : Str)) = false) (hds : env[i]? = some (some (.own q0 (.lst ds)))) (hs : PlainIx b)
    (h : WE X m env b fun y => asInt y fun j => ∃ d, atI ds j = some d ∧ P d) : WE X m env (.Subscript (.Name x p2) b pos) P := by
  refine ⟨fun σ H0 F H k g ev t => tec (pe_ix ix_list (pe_var hN hv hd hcd) pe_can hs) ?_⟩
  obtain ⟨v, hσ, ho, rfl, hm, hF, h0, hH, xs, rfl, ha⟩ := ev.at_ i _ hds
  refine ⟨.ref q0, hσ, ?_⟩
  refine h.run σ H0 F H _ g ev fun v d F1 H1 s1 hv q => ?_
  obtain ⟨j, rfl, rfl, d, e, q⟩ := hv.asInt q
  obtain ⟨u, e', hu⟩ := ha.atI e
  exact ⟨q0, xs, j, u, rfl, rfl, .of (s1.keep q0 _ hm hH), e', (t.after s1).at s1.good (hu.mono s1.fs) q⟩
/-- len(x) -/
theorem we_lenOwn (i : Nat) {q0 : Addr} {ds : List D} (hN : X.N[i]? = some x) (hv : Vis X.env.scope x) (hd : (x == ("__debug__" : Str)) = false) (hcd : (x == ("__classdict__" : Str)) = false) (hds : env[i]? = some (some (.own q0 (.lst ds))))
    (hg : Gl X "len") (hm : X.mg "len" = none) (he : starEach [.Name x p2] X.env = (false, eval (.Name x p2) X.env) :: starEach [] X.env) (hpl : (backTo pos (starEach [] X.env)).any (·.1) = false) (h : P (.int ds.length)) : WE X m env (.Call (.Name "len" p3) [.Name x p2] [] pos) P := by
  refine ⟨fun σ H0 F H k g ev t => tec (pe_callB call_len_seq hg hm PySem.boot_len (pa_cons (pe_var hN hv hd hcd) pa_nil he) (by decide) (by decide) he hpl) ?_⟩
  obtain ⟨v, hσ, ho, rfl, hm', hF, h0, hH, xs, rfl, ha⟩ := ev.at_ i _ hds
  refine ⟨.ref q0, hσ, q0, xs, rfl, .inl (.of hH), ?_⟩
  rw [ha.length]
  exact t.at g (.int _) h
/-- x[i] = e -/
theorem ws_setIx (i : Nat) {q0 : Addr} {ds : List D} (hN : X.N[i]? = some x) (hv : Vis X.env.scope x) (hd : (x == ("__debug__" : Str)) = false) (hcd : (x == ("__classdict__" : Str)) = false) (hds : env[i]? = some (some (.own q0 (.lst ds))))
    (hps : PS X (.Assign [.Subscript (.Name x p2) b p3] e pos) (tAsg (TEc X e) (gSub (tVar i) (TEc X b) rSetL)))
    (h : WE X m env e fun d => WE X m env b fun y => asInt y fun j => ∃ n, ixN ds.length j = some n ∧ R.nx (env.set i (some (.own q0 (.lst (ds.set n d)))))) : WS X m env (.Assign [.Subscript (.Name x p2) b p3] e pos) R := by
  refine ⟨fun σ F0 H0 Fl F H De W s o => tsc hps ?_⟩
  obtain ⟨v, hσ, ho, rfl, hm, hF, h0, hH, xs, rfl, ha⟩ := s.env.at_ i _ hds
  refine h.run σ H0 F H _ s.good s.env fun v d F1 H1 s1 hv q => ?_
  refine ⟨.ref q0, hσ, ?_⟩
  refine q.run σ H0 F1 H1 _ s1.good (s.env.step s1) fun y dy F2 H2 s2 hy q => ?_
  obtain ⟨j, rfl, rfl, n, hn, q⟩ := hy.asInt q
  have hH2 : H2 q0 = some (.lst xs) := s2.keep q0 _ hm (s1.keep q0 _ hm hH)
  have hF2 := s2.noF (s1.noF hF ⟨_, hH⟩) ⟨_, s1.keep q0 _ hm hH⟩
  refine ⟨q0, xs, j, n, rfl, rfl, hH2, by rw [ha.length]; exact hn, ?_⟩
  exact o.nx _ _ F2 _ ⟨((s.step.trans s1).trans s2).mut hF2 hm h0, ((s.env.step s1).step s2).mut hds (.ofL (((ha.mono s1.fs).mono s2.fs).set (hv.mono s2.fs) n)), (s.fl.trans s1.fs).trans s2.fs⟩ q
theorem ps_setIx {i : Nat} (hN : X.N[i]? = some x) (hv : Vis X.env.scope x) (hd : (x == ("__debug__" : Str)) = false) (hcd : (x == ("__classdict__" : Str)) = false)
    (ha : ∀ v, assign (.Subscript (.Name x p2) b p3) X.env v = (do
      let ov ← holding [v] (eval (.Name x p2) X.env)
      let iv ← holding [v, ov] (eval b X.env)
      standAt p3
      holding [v, ov, iv] (setItem ov iv v)
      release [v, ov, iv] []))
    (hs : swapsWithSole [.Subscript (.Name x p2) b p3] e pos.line X.env = pure false) (hw : swappedStores [.Subscript (.Name x p2) b p3] e X.env = pure none)
    (h1 : (assignEach [.Subscript (.Name x p2) b p3] X.env).map (·.2) = [assign (.Subscript (.Name x p2) b p3) X.env]) : PS X (.Assign [.Subscript (.Name x p2) b p3] e pos) (tAsg (TEc X e) (gSub (tVar i) (TEc X b) rSetL)) :=
  ps_asg pe_can (pg_sub (pe_var hN hv hd hcd) pe_can set_list ha) hs hw h1
/-- x.pop(e) -/
theorem wes_popAt (i : Nat) {q0 : Addr} {ds : List D} (hN : X.N[i]? = some x) (hv : Vis X.env.scope x) (hd : (x == ("__debug__" : Str)) = false) (hcd : (x == ("__classdict__" : Str)) = false) (hds : env[i]? = some (some (.own q0 (.lst ds)))) : True := trivial
end

/-! ### loops -/
section
variable {X : Cx} {m : Option Mem} {env : Ev} {a b c e iter : Expr} {es : List Expr} {pos p2 p3 : Pos} {R : DEnds} {st : Stmt} {rest body els : List Stmt} {x : Str}
theorem EndsOk.loop {F0 H0 Fl : Hp} {De : Ends} {W : WX} (o : EndsOk X m F0 H0 Fl R De W) {N : L2.St → Hp → Prop} {I : Ev → Prop} (h : ∀ σ env F H, Sta X.K m F0 H0 Fl F H σ env → I env → N σ H) :
    EndsOk X m F0 H0 Fl { nx := I, ct := I, bk := R.nx, rt := R.rt, ex := R.ex } { De with nx := N, ct := N, bk := De.nx } W := ⟨h, o.rt, o.nx, h, o.tk, o.ex⟩
theorem ws_forL (t : Nat) (hp : PassesOwn (model X.prog X.w) X.A X.env X.xe) (hc : X.calm = true) (hN : X.N.Nodup) (hi : X.N[t]? = some x) (hx : Loc X.env.scope x) (hf : X.fn x = true ∨ X.env.scope.names.lookup x = some .local) (hs : ∀ y, foldedSetIterable iter X.env y = pure y)
    (h : WE X m env iter fun d => asLst d fun ds => ∃ I : Nat → Ev → Prop, I 0 env ∧
      (∀ (i : Nat) (d : D) (env' : Ev), ds[i]? = some d → I i env' → WSs X m (env'.set t (some (.frz d))) body { nx := I (i + 1), ct := I (i + 1), bk := R.nx, rt := R.rt, ex := R.ex }) ∧ ∀ env', I ds.length env' → R.nx env') :
    WS X m env (.For (.Name x p2) iter body [] pos) R := by
  refine ⟨fun σ F0 H0 Fl F H De W s o => tsc (ps_for hp hc (pi_list pe_can) (pg_name hN hi hx hf) pss_can hs) ?_⟩
  refine h.run σ H0 F H _ s.good s.env fun v d F1 H1 s1 hv q => ?_
  obtain ⟨p, xs, ds, rfl, rfl, h1, h2, I, i0, turn, fin⟩ := hv.asLst q
  refine ⟨p, rfl, ⟨xs, .of (s1.good.sub _ _ h1)⟩, ?_⟩
  refine for_list (K := X.K) (a := p) (xs := xs) (fun i σ H => ∃ F' env', Sta X.K m F0 H0 F1 F' H σ env' ∧ I i env') ⟨F1, env, ⟨s.step.trans s1, s.env.step s1, Same.refl _⟩, i0⟩ (fun i σ H hi ⟨F', env', s', _⟩ => .of (s'.good.sub _ _ (s'.fl _ _ h1))) (fun i v σ H hi ⟨F', env', s', hI⟩ => ?_) fun σ H ⟨F', env', s', hI⟩ => ?_
  · obtain ⟨d, hd, iv⟩ := h2.getV hi
    refine (turn i d env' hd hI).run _ F0 H0 F1 F' H _ W ⟨s'.step, s'.env.frz (iv.mono s'.fl), s'.fl⟩ ?_
    exact ⟨fun σ env F2 H2 s2 w => ⟨F2, env, s2, w⟩, fun v d σ env F2 H2 s2 => o.rt v d σ env F2 H2 (s2.floor (s.fl.trans s1.fs)), fun σ env F2 H2 s2 w => o.nx σ env F2 H2 (s2.floor (s.fl.trans s1.fs)) w, fun σ env F2 H2 s2 w => ⟨F2, env, s2, w⟩, o.tk, fun σ env F2 H2 C d fs s2 => o.ex σ env F2 H2 C d fs (s2.floor (s.fl.trans s1.fs))⟩
  · exact o.nx σ env' F' H (s'.floor (s.fl.trans s1.fs)) (fin env' (by rw [← h2.length]; exact hI))
/-- for x in range(n) -/
theorem ws_forR (t : Nat) {pr : Pos} (hp : PassesOwn (model X.prog X.w) X.A X.env X.xe) (hc : X.calm = true) (hN : X.N.Nodup) (hi : X.N[t]? = some x) (hx : Loc X.env.scope x) (hf : X.fn x = true ∨ X.env.scope.names.lookup x = some .local) (hrg : Gl X "range") (hrm : X.mg "range" = none) (hst : starEach [a] X.env = [(false, eval a X.env)])
    (hs : ∀ y, foldedSetIterable (.Call (.Name "range" p3) [a] [] pr) X.env y = pure y)
    (h : WE X m env a fun d => asInt d fun n => (-1000000000 ≤ n ∧ n ≤ 1000000000) ∧ ∃ I : Nat → Ev → Prop, I 0 env ∧
      (∀ (i : Nat) (env' : Ev), (i : Int) < n → I i env' → WSs X m (env'.set t (some (.frz (.int i)))) body { nx := I (i + 1), ct := I (i + 1), bk := R.nx, rt := R.rt, ex := R.ex }) ∧ ∀ env', I n.toNat env' → R.nx env') :
    WS X m env (.For (.Name x p2) (.Call (.Name "range" p3) [a] [] pr) body [] pos) R := by
  refine ⟨fun σ F0 H0 Fl F H De W s o => tsc (ps_for hp hc (pi_range1 hrg hrm (pa_cons pe_can pa_nil hst) hst) (pg_name hN hi hx hf) pss_can hs) ?_⟩
  refine h.run σ H0 F H _ s.good s.env fun v d F1 H1 s1 hv q => ?_
  obtain ⟨n, rfl, rfl, ⟨hn1, hn2⟩, I, i0, turn, fin⟩ := hv.asInt q
  refine ⟨n, rfl, by omega, by omega, ?_⟩
  refine for_range (fun i σ H => ∃ F' env', Sta X.K m F0 H0 F1 F' H σ env' ∧ I i env') ⟨F1, env, ⟨s.step.trans s1, s.env.step s1, Same.refl _⟩, i0⟩ (fun i σ H hi ⟨F', env', s', hI⟩ => ?_) fun σ H ⟨F', env', s', hI⟩ => ?_
  · have hlt : (i : Int) < n := by omega
    have e0 : ((0 : Int) + (i : Int)) = (i : Int) := by omega
    rw [e0]
    refine (turn i env' hlt hI).run _ F0 H0 F1 F' H _ W ⟨s'.step, s'.env.frz (.int _), s'.fl⟩ ?_
    exact ⟨fun σ env F2 H2 s2 w => ⟨F2, env, s2, w⟩, fun v d σ env F2 H2 s2 => o.rt v d σ env F2 H2 (s2.floor (s.fl.trans s1.fs)), fun σ env F2 H2 s2 w => o.nx σ env F2 H2 (s2.floor (s.fl.trans s1.fs)) w, fun σ env F2 H2 s2 w => ⟨F2, env, s2, w⟩, o.tk, fun σ env F2 H2 C d fs s2 => o.ex σ env F2 H2 C d fs (s2.floor (s.fl.trans s1.fs))⟩
  · exact o.nx σ env' F' H (s'.floor (s.fl.trans s1.fs)) (fin env' hI)
/-- while: I by a measure -/
theorem ws_while (hp : PassesOwn (model X.prog X.w) X.A X.env X.xe) (I : Nat → Ev → Prop) (n0 : Nat) (i0 : I n0 env)
    (turn : ∀ (n : Nat) (env' : Ev), I n env' → WT X m env' c fun t => if t = true then WSs X m env' body { nx := fun ev => ∃ n', n' < n ∧ I n' ev, ct := fun ev => ∃ n', n' < n ∧ I n' ev, bk := R.nx, rt := R.rt, ex := R.ex } else R.nx env') :
    WS X m env (.While c body [] pos) R := by
  refine ⟨fun σ F0 H0 Fl F H De W s o => tsc (ps_while hp pt_can pss_can) ?_⟩
  refine ⟨fun n σ H => ∃ F' env', Sta X.K m F0 H0 Fl F' H σ env' ∧ I n env', ⟨n0, F, env, s, i0⟩, fun n σ H ⟨F', env', s', hI⟩ => ?_⟩
  refine (turn n env' hI).run σ H0 F' H _ s'.good s'.env fun t F1 H1 s1 q => ?_
  cases t with
  | true =>
    rw [if_pos rfl] at q ⊢
    refine ⟨fun σ H => ∃ F' env', Sta X.K m F0 H0 Fl F' H σ env' ∧ ∃ n', n' < n ∧ I n' env', fun σ' H' ⟨F2, env2, s2, n', hn, hI'⟩ => ⟨n', hn, F2, env2, s2, hI'⟩, ?_⟩
    refine q.run σ F0 H0 Fl F1 H1 _ W (s'.after s1) ?_
    exact ⟨fun σ env F2 H2 s2 w => ⟨F2, env, s2, w⟩, o.rt, o.nx, fun σ env F2 H2 s2 w => ⟨F2, env, s2, w⟩, o.tk, o.ex⟩
  | false =>
    rw [if_neg Bool.false_ne_true] at q ⊢
    exact o.nx σ env' F1 H1 (s'.after s1) q
end

/-! ### a def's promise by its body -/
def envOf (N : List Str) (ds : List D) : Ev := ds.map (fun d => some (.frz d)) ++ List.replicate (N.length - ds.length) none
theorem envs_start {K : PySem.W.Frag} {m : Option Mem} {F H : Hp} {N : List Str} {vs : List V} {ds : List D} (h : IsAll K F vs ds) : Envs K m H F H (L2.start N vs) (envOf N ds) := by
  have aux : ∀ (i : Nat) (s : Slot), (envOf N ds)[i]? = some (some s) → ∃ d, s = .frz d ∧ ds[i]? = some d := fun i s e => by
    unfold envOf at e
    rcases Nat.lt_or_ge i ds.length with hi | hi
    · rw [List.getElem?_append_left (by simpa using hi), List.getElem?_map] at e
      cases e1 : ds[i]? with
      | none => rw [e1] at e; cases e
      | some d =>
        rw [e1] at e
        cases e
        exact ⟨d, rfl, rfl⟩
    · rw [List.getElem?_append_right (by simpa using hi)] at e
      have := List.mem_of_getElem? e
      have := List.eq_of_mem_replicate this
      cases this
  refine ⟨fun i s e => ?_, ?_, fun i j es fs p hij e1 e2 => ?_⟩
  · obtain ⟨d, rfl, hd⟩ := aux i s e
    obtain ⟨v, hv, iv⟩ := h.get hd
    refine ⟨v, ?_, iv⟩
    have hi : i < vs.length := (List.getElem?_eq_some_iff.mp hv).1
    unfold L2.start
    rw [List.getElem?_append_left (by simpa using hi), List.getElem?_map, hv]
    rfl
  · unfold L2.start envOf
    simp [h.length]
  · obtain ⟨d, hd, _⟩ := aux i _ e1
    cases hd
section
variable {P : Program} {w : World} {K : PySem.W.Frag} {mg : Str → Option Value} {base : Heap}
theorem Fun.okD {x qual : Str} {st : Stmt} {f : Addr} {fd : FuncData} {N ps : List Str} {k : Nat} {A : List D → (D → Prop) → Prop} (Fn : Fun K x qual st f fd) (S : FnScope N ps (defScope st))
    (hb : ∀ (cdv : Value) (Ar : Around) (outer : List Env) (s : Shared) (H : Hp) (E : XK) (ds : List D) (Q : D → Prop), Room k (Ar.deeper (PyProof.Rows.envOfC qual (defScope st) s.heap.objs.size f cdv)) → ds.length = ps.length → A ds Q →
      WSs (cxOf (L2.CX P w) P w K mg base N qual (defScope st) f cdv Ar outer s H E) none (envOf N ds) (defBody st) { nx := fun _ => Q .non, rt := fun d _ => Q d }) :
    FnOk P w K mg base (L2.CX P w) (k + 1) f fd ps (spD K none ps.length A) := by
  refine Fn.okX S (fun vs H Q E h => h.1) fun cdv Ar outer s H vs Q E hr h => ⟨_, pss_can, ?_⟩
  obtain ⟨hl, F, ds, Q', g, ha, hA, t⟩ := h
  refine (hb cdv Ar outer s H E ds Q' hr (by rw [← ha.length]; exact hl) hA).run _ F H F F H _ (fun _ _ _ _ => False) ⟨.refl g, envs_start ha, Same.refl _⟩ ?_
  exact ⟨fun σ env F' H' s' q => t .non .non F' H' s'.step .non q, fun v d σ env F' H' s' hv q => t v d F' H' s'.step hv q, fun _ _ _ _ _ z => z.elim, fun _ _ _ _ _ z => z.elim, takes0, fun _ _ _ _ _ _ _ _ _ z => z.elim⟩
theorem Fun.okB {x qual : Str} {st : Stmt} {f : Addr} {fd : FuncData} {N ps : List Str} {k : Nat} {A : List D → (D → Prop) → Prop} (Fn : Fun K x qual st f fd) (S : FnScope N ps (defScope st))
    (hb : ∀ (cdv : Value) (Ar : Around) (outer : List Env) (s : Shared) (H : Hp) (E : XK) (b : Mem) (ds : List D) (Q : D → Prop), Room k (Ar.deeper (PyProof.Rows.envOfC qual (defScope st) s.heap.objs.size f cdv)) → ds.length + 1 = ps.length → A ds Q →
      WSs (cxOf (L2.CX P w) P w K mg base N qual (defScope st) f cdv Ar outer s H E) (some b) (envOf N (.ref b :: ds)) (defBody st) { nx := fun _ => Q .non, rt := fun d _ => Q d }) :
    FnOk P w K mg base (L2.CX P w) (k + 1) f fd ps (spB K ps.length A) := by
  refine Fn.okX S (fun vs H Q E h => let ⟨_, _, h⟩ := h; h.1) fun cdv Ar outer s H vs Q E hr h => ⟨_, pss_can, ?_⟩
  obtain ⟨b, _, hl, F, ds, Q', g, ha, ⟨es, rfl, hA⟩, t⟩ := h
  refine (hb cdv Ar outer s H E b es Q' hr (by rw [ha.length] at hl; exact hl) hA).run _ F H F F H _ (fun _ _ _ _ => False) ⟨.refl g, envs_start ha, Same.refl _⟩ ?_
  exact ⟨fun σ env F' H' s' q => t .non .non F' H' s'.step .non q, fun v d σ env F' H' s' hv q => t v d F' H' s'.step hv q, fun _ _ _ _ _ z => z.elim, fun _ _ _ _ _ z => z.elim, takes0, fun _ _ _ _ _ _ _ _ _ z => z.elim⟩
end
end DL
set_option Elab.async false
set_option linter.all false
set_option maxRecDepth 100000
set_option autoImplicit false
/-! DL, part 7: the bag of draws. -/
namespace DL
open PySem L2
def bagD (l : Addr) (ns : List Int) (i : Nat) (q g c : Int) : List D := [.nam l (ns.map .int), .int i, .int q, .int g, .int c]
/-- a draw: any number below the size -/
def A_draw (ds : List D) (P : D → Prop) : Prop := ∃ n : Int, ds = [.int n] ∧ 1 ≤ n ∧ n < 2 ^ 4000 ∧ ∀ r : Int, 0 ≤ r → r < n → P (.int r)
section
variable {P : Program} {w : World} {K : PySem.W.Frag} {mg : Str → Option Value} {base : Heap}
theorem Fun.okDraw {x qual : Str} {st : Stmt} {f : Addr} {fd : FuncData} {N ps : List Str} {k : Nat} (Fn : Fun K x qual st f fd) (S : FnScope N ps (defScope st)) (hps : ps.length = 2)
    (hb : ∀ (cdv : Value) (Ar : Around) (outer : List Env) (s : Shared) (H : Hp) (E : XK) (n : Int) (ns : List Int) (i : Nat) (q g c : Int) (Q : D → Prop), Room k (Ar.deeper (PyProof.Rows.envOfC qual (defScope st) s.heap.objs.size f cdv)) →
      1 ≤ n → n < 2 ^ 4000 → 0 ≤ q → q.natAbs < 2 ^ 1100000 → (∀ z ∈ ns, z.natAbs < 2 ^ 1090000) → (∀ r : Int, 0 ≤ r → r < n → Q (.int r)) →
      ∀ b l : Addr, WSs (cxOf (L2.CX P w) P w K mg base N qual (defScope st) f cdv Ar outer s H E) none (some (.own b (.lst (bagD l ns i q g c))) :: some (.frz (.int n)) :: List.replicate (N.length - 2) none) (defBody st)
        { nx := fun _ => False, rt := fun d env => (∃ (i : Nat) (q g c : Int), env[0]? = some (some (.own b (.lst (bagD l ns i q g c)))) ∧ 0 ≤ q ∧ q.natAbs < 2 ^ 1100000) ∧ ∃ r : Int, d = .int r ∧ Q d }) :
    FnOk P w K mg base (L2.CX P w) (k + 1) f fd ps (spB K 2 A_draw) := by
  refine Fn.okX S (fun vs H Q E h => by rw [hps]; obtain ⟨_, _, h⟩ := h; exact h.1) fun cdv Ar outer s H vs Q E hr h => ⟨_, pss_can, ?_⟩
  obtain ⟨b, hb0, hl, F, ds, Q', g, ha, ⟨es, rfl, n, rfl, hn1, hn2, hQ⟩, t⟩ := h
  obtain ⟨⟨hFb, hFl⟩, i, q, gg, c, hne, hH, hHl, hq0, hq1, hns⟩ := g.bag b rfl
  generalize hnse : b.ns = ns at hHl hns
  have hv : vs = [.ref b, .int n] := by
    cases ha with
    | cons h1 h2 =>
      cases h1
      cases h2 with
      | cons h3 h4 => cases h3; cases h4; rfl
  subst hv
  let F1 : Hp := fun a => if a = b.l then some (.lst (ns.map V.int)) else F a
  have F1l : F1 b.l = some (.lst (ns.map V.int)) := if_pos rfl
  have F1n : ∀ a, a ≠ b.l → F1 a = F a := fun a h => if_neg h
  have g1 : Good K none F1 H := ⟨fun a o e => by
    by_cases h : a = b.l
    · subst h; rw [F1l] at e; rw [hHl]; exact e
    · rw [F1n a h] at e; exact g.sub a o e, fun _ z => nomatch z⟩
  have hF1b : F1 b.b = none := (F1n _ hne).trans hFb
  let H0 : Hp := fun a => if a = b.b then none else H a
  have h0b : H0 b.b = none := if_pos rfl
  have h0 : ∀ a, a ≠ b.b → H0 a = H a := fun a h => if_neg h
  have start : Sta K none F1 H0 F1 F1 H (L2.start N [.ref b, .int n]) (some (.own b (.lst (bagD b.l ns i q gg c))) :: some (.frz (.int n)) :: List.replicate (N.length - 2) none) := by
    refine ⟨⟨Same.refl _, g1, fun a h1 h2 => absurd h1 h2, fun a o _ h => ?_⟩, ⟨fun j s e => ?_, ?_, fun j k ds es p hjk e1 e2 => ?_⟩, Same.refl _⟩
    · by_cases hab : a = b.b
      · subst hab; rw [h0b] at h; cases h
      · rw [h0 a hab] at h; exact h
    · match j, e with
      | 0, e =>
        cases e
        refine ⟨.ref b, rfl, _, rfl, (fun z => nomatch z), hF1b, h0b, hH, _, rfl, IsAll.cons (.nam F1l (isAll_ints ns)) (.cons (.int _) (.cons (.int _) (.cons (.int _) (.cons (.int _) .nil))))⟩
      | 1, e => cases e; exact ⟨.int n, rfl, .int n⟩
      | j + 2, e =>
        have e : (List.replicate (N.length - 2) (none : Option Slot))[j]? = some (some s) := e
        have := List.eq_of_mem_replicate (List.mem_of_getElem? e)
        cases this
    · show (L2.start N [.ref b, .int n]).length = _
      unfold L2.start
      simp
    · match j, e1 with
      | 0, e1 =>
        match k, e2 with
        | 0, e2 => exact absurd rfl hjk
        | 1, e2 => cases e2
        | k + 2, e2 =>
          have e : (List.replicate (N.length - 2) (none : Option Slot))[k]? = some (some (.own p es)) := e2
          have := List.eq_of_mem_replicate (List.mem_of_getElem? e)
          cases this
      | 1, e1 => cases e1
      | j + 2, e1 =>
        have e : (List.replicate (N.length - 2) (none : Option Slot))[j]? = some (some (.own p ds)) := e1
        have := List.eq_of_mem_replicate (List.mem_of_getElem? e)
        cases this
  refine (hb cdv Ar outer s H E n ns i q gg c Q' hr hn1 hn2 hq0 hq1 hns hQ b b.l).run _ F1 H0 F1 F1 H _ (fun _ _ _ _ => False) start ?_
  refine ⟨fun _ _ _ _ _ z => z.elim, fun v d σ env F' H' s' hv q => ?_, fun _ _ _ _ _ z => z.elim, fun _ _ _ _ _ z => z.elim, takes0, fun _ _ _ _ _ _ _ _ _ z => z.elim⟩
  obtain ⟨⟨i', q', g', c', he, hq0', hq1'⟩, r, rfl, hQd⟩ := q
  cases hv
  obtain ⟨v0, hσ0, ho, rfl, _, hFp, _, hHp, xs, rfl, hap⟩ := s'.env.at_ 0 _ he
  have kp : ∀ a o, a ≠ b.b → H a = some o → H' a = some o := fun a o hab ho => s'.step.keep a o (fun z => nomatch z) (by rw [h0 a hab]; exact ho)
  have hHl' := kp _ _ (Ne.symm hne) hHl
  refine t _ _ F H' ⟨Same.refl _, ⟨fun a o e => kp a o (fun z => by rw [z, hFb] at e; cases e) (g.sub a o e), fun z hz => ?_⟩, fun a h1 h2 => absurd h1 h2, fun a o hm ho => ?_⟩ (.int r) hQd
  · cases hz
    refine ⟨⟨hFb, hFl⟩, ?_⟩
    cases hap with
    | cons a1 r1 =>
      cases a1 with
      | nam c1 c2 =>
        obtain rfl := c2.ints
        cases r1 with
        | cons a2 r2 =>
          cases a2
          cases r2 with
          | cons a3 r3 =>
            cases a3
            cases r3 with
            | cons a4 r4 =>
              cases a4
              cases r4 with
              | cons a5 r5 =>
                cases a5
                cases r5
                exact ⟨i', q', g', c', hne, hHp, by rw [hnse]; exact hHl', hq0', hq1', by rw [hnse]; exact hns⟩
  · exact kp a o (fun z => hm (by rw [z]; exact .b b)) ho
end
end DL
set_option Elab.async false
set_option linter.all false
set_option maxRecDepth 100000
set_option autoImplicit false
/-! DL, part 8: own classes' special methods; the rules over a context told by its facts alone. -/
namespace DL
open PySem L2

/-! ### special methods of an own class, by the layer's values -/
def rInO (C : Addr) (sp : Sp) (neg : Bool) : R2 := fun x y H Q => ∃ a dx fs, y = .ref a ∧ H a = some (.ins C dx fs) ∧ sp [.ref a, x] H (fun v H' => ∃ c, v = .bl c ∧ Q (.bl (if neg then !c else c)) H') E0
section
variable {X : Cx} {C f : Addr} {fd : FuncData} {ps : List Str} {sp : Sp} {k : Nat}
theorem op_inO (hs : PySem.W.findIn X.K (.ref C) "__contains__" = some (some (.ref f))) (hf : PySem.W.isFn X.K (.ref f) = true) (Fn : FnOk X.prog X.w X.K X.mg X.base (L2.CX X.prog X.w) k f fd ps sp) (hr : Room k X.A) (hb : Binds X.K fd ps []) :
    OpR X (compareOp .In) (rInO C sp false) := by
  intro pins s σ H x y v u Q I rx ry h
  obtain ⟨a, dx, fs, rfl, hH, h⟩ := h
  cases ry
  obtain ⟨ox, od, J, hd⟩ := StX.insC_at I (.inr ⟨dx, fs, hH⟩)
  obtain ⟨m0, fr⟩ := I.fr
  refine PySem.W.in_K fr I.ok.mod.kin J hs hf (thn (run_fn (us := [.ref a, v]) (vs := [.ref a, x]) Fn hr hb .nil passL I (.cons rfl (.cons rx .nil)) h) fun r s' ⟨v', H', I', rv, c, e, q⟩ => ?_)
  subst e
  cases rv
  exact wpAny_truthy_bool ⟨.bl c, H', I', rfl, by simpa using q⟩
theorem op_notInO (hs : PySem.W.findIn X.K (.ref C) "__contains__" = some (some (.ref f))) (hf : PySem.W.isFn X.K (.ref f) = true) (Fn : FnOk X.prog X.w X.K X.mg X.base (L2.CX X.prog X.w) k f fd ps sp) (hr : Room k X.A) (hb : Binds X.K fd ps []) :
    OpR X (compareOp .NotIn) (rInO C sp true) := by
  intro pins s σ H x y v u Q I rx ry h
  obtain ⟨a, dx, fs, rfl, hH, h⟩ := h
  cases ry
  obtain ⟨ox, od, J, hd⟩ := StX.insC_at I (.inr ⟨dx, fs, hH⟩)
  obtain ⟨m0, fr⟩ := I.fr
  refine PySem.W.notIn_K fr I.ok.mod.kin J hs hf (thn (run_fn (us := [.ref a, v]) (vs := [.ref a, x]) Fn hr hb .nil passL I (.cons rfl (.cons rx .nil)) h) fun r s' ⟨v', H', I', rv, c, e, q⟩ => ?_)
  subst e
  cases rv
  exact wpAny_truthy_bool ⟨.bl (!c), H', I', rfl, by simpa using q⟩
def rLenO (C : Addr) (sp : Sp) : List V → Hp → VK → Prop := fun xs H Q => ∃ a dx fs, xs = [.ref a] ∧ H a = some (.ins C dx fs) ∧ sp [.ref a] H (fun v H' => ∃ n : Int, v = .int n ∧ 0 ≤ n ∧ n < 2 ^ 63 ∧ Q (.int n) H') E0
theorem call_lenO (hs : PySem.W.findIn X.K (.ref C) "__len__" = some (some (.ref f))) (hf : PySem.W.isFn X.K (.ref f) = true) (Fn : FnOk X.prog X.w X.K X.mg X.base (L2.CX X.prog X.w) k f fd ps sp) (hr : Room (k + 1) X.A) (hb : Binds X.K fd ps []) :
    CallR X (.builtin "len") (rLenO C sp) := by
  intro pins s σ H xs us Q I r h
  obtain ⟨a, dx, fs, rfl, hH, h⟩ := h
  obtain ⟨u, rfl, rx⟩ := vals1 r
  cases rx
  obtain ⟨ox, od, J, hd⟩ := StX.insC_at I (.inr ⟨dx, fs, hH⟩)
  obtain ⟨m0, fr⟩ := I.fr
  have hl : ([Value.ref a] ++ []).length = ps.length := by rw [← Fn.len _ _ _ _ h]; rfl
  refine PySem.W.len_K fr I.ok.mod.kin J hs hf (wpAny_call (codeAny_mono (Fn.run X.A.in1 X.stack s H ⟨[.ref a], []⟩ ([.ref a] ++ []) [.ref a] _ E0 hr.in1 I.env0.in1 (hb _ [.ref a] I.kIn hl) (Paired.cons (show RelV (V.ref a) (Value.ref a) from rfl) Paired.nil) h) fun r s' hq => ?_))
  cases r with
  | error er => exact passL pins σ H s er s' I hq
  | ok fl =>
    cases fl with
    | ret u =>
      obtain ⟨v, H', I3, rv, n, rfl, h0, h1, q⟩ := I.after hq
      obtain ⟨t, rfl⟩ := rv
      exact ⟨⟨h0, h1⟩, .int n, H', I3.tok _, ⟨_, rfl⟩, q⟩
    | next => exact False.elim hq
    | brk => exact False.elim hq
    | cont => exact False.elim hq
end

/-! ### a context by its facts -/
inductive At : List Str → Nat → Str → Prop
  | z {x : Str} {l : List Str} : At (x :: l) 0 x
  | s {x y : Str} {l : List Str} {i : Nat} : At l i x → At (y :: l) (i + 1) x
theorem At.get : ∀ {l : List Str} {i : Nat} {x : Str}, At l i x → l[i]? = some x
  | _, _, _, .z => rfl
  | _, _, _, .s h => h.get
theorem At.mem {l : List Str} {i : Nat} {x : Str} (h : At l i x) : x ∈ l := List.mem_of_getElem? h.get
def NoMg (mg : Str → Option Value) (l : List Str) : Prop := ∀ x ∈ l, mg x = none
def VisOk (sc : Scope) (x : Str) : Bool := (match sc.names.lookup x with | some .local => true | some .cell => true | some .free => true | _ => false) && !(x == ("__debug__" : Str)) && !(x == ("__classdict__" : Str))
def LocOk (sc : Scope) (x : Str) : Bool := (match sc.names.lookup x with | some .local => true | some .cell => true | _ => false)
def GlOk (sc : Scope) (x : Str) : Bool := (match sc.names.lookup x with | some .globalImplicit => true | _ => false) && !(x == ("__debug__" : Str)) && !(x == ("__name__" : Str))
structure DX (X : Cx) (P : Program) (w : World) (K : PySem.W.Frag) (mg : Str → Option Value) (base : Heap) (N Vn L G : List Str) (S : Scope) (k : Nat) : Prop where
  prog : X.prog = P
  w_ : X.w = w
  K_ : X.K = K
  mg_ : X.mg = mg
  base_ : X.base = base
  N_ : X.N = N
  nd : N.Nodup
  S_ : X.env.scope = S
  vis : ∀ x ∈ Vn, VisOk S x = true
  loc : ∀ x ∈ L, LocOk S x = true
  fn : ∀ x ∈ L, X.fn x = true
  gl : ∀ x ∈ G, GlOk S x = true
  calm : X.calm = true
  room : Room k X.A
  pass : PassesOwn (model X.prog X.w) X.A X.env X.xe
section
variable {X : Cx} {P : Program} {w : World} {K : PySem.W.Frag} {mg : Str → Option Value} {base : Heap} {N Vn L G B : List Str} {S : Scope} {k : Nat} {x : Str} {i j : Nat}
theorem DX.v (dx : DX X P w K mg base N Vn L G S k) (h : At Vn j x) : Vis X.env.scope x ∧ (x == ("__debug__" : Str)) = false ∧ (x == ("__classdict__" : Str)) = false := by
  have q := dx.vis x h.mem
  unfold VisOk at q
  rw [dx.S_]
  simp only [Bool.and_eq_true, Bool.not_eq_true'] at q
  refine ⟨?_, q.1.2, q.2⟩
  have q1 := q.1.1
  unfold Vis
  cases e : S.names.lookup x with
  | none => rw [e] at q1; cases q1
  | some kd =>
    rw [e] at q1
    cases kd <;> first | exact .inl rfl | exact .inr (.inl rfl) | exact .inr (.inr rfl) | cases q1
theorem DX.l (dx : DX X P w K mg base N Vn L G S k) (h : At L j x) : L2.Loc X.env.scope x ∧ (X.fn x = true ∨ X.env.scope.names.lookup x = some .local) := by
  have q := dx.loc x h.mem
  unfold LocOk at q
  rw [dx.S_]
  refine ⟨?_, .inl (dx.fn x h.mem)⟩
  unfold L2.Loc
  cases e : S.names.lookup x with
  | none => rw [e] at q; cases q
  | some kd =>
    rw [e] at q
    cases kd <;> first | exact .inl rfl | exact .inr rfl | cases q
theorem DX.g (dx : DX X P w K mg base N Vn L G S k) (h : At G j x) : Gl X x ∧ (x == ("__debug__" : Str)) = false ∧ x ≠ "__name__" := by
  have q := dx.gl x h.mem
  unfold GlOk at q
  simp only [Bool.and_eq_true, Bool.not_eq_true'] at q
  refine ⟨?_, q.1.2, fun z => by have := q.2; rw [z] at this; simp at this⟩
  have q1 := q.1.1
  show X.env.scope.names.lookup x = some .globalImplicit
  rw [dx.S_]
  cases e : S.names.lookup x with
  | none => rw [e] at q1; cases q1
  | some kd =>
    rw [e] at q1
    cases kd <;> first | rfl | cases q1
theorem DX.n (dx : DX X P w K mg base N Vn L G S k) (h : At N i x) : X.N[i]? = some x := by rw [dx.N_]; exact h.get
theorem DX.ndX (dx : DX X P w K mg base N Vn L G S k) : X.N.Nodup := by rw [dx.N_]; exact dx.nd
theorem DX.b (dx : DX X P w K mg base N Vn L G S k) (hb : NoMg mg B) (h : At B j x) : X.mg x = none := by rw [dx.mg_]; exact hb x h.mem
variable {m : Option Mem} {env : Ev} {a b c e iter elt : Expr} {es : List Expr} {Q : D → Prop} {pos p2 p3 p4 : Pos} {R : DEnds} {rest body els : List Stmt} {j2 : Nat}
theorem dl_name (dx : DX X P w K mg base N Vn L G S k) (h1 : At N i x) (h2 : At Vn j x) {d : D} (he : env[i]? = some (some (.frz d))) (h : Q d) : WE X m env (.Name x pos) Q :=
  let ⟨v, d1, d2⟩ := dx.v h2; we_name i (dx.n h1) v d1 d2 he h
theorem dl_ixOwn (dx : DX X P w K mg base N Vn L G S k) (h1 : At N i x) (h2 : At Vn j x) {q0 : Addr} {ds : List D} (he : env[i]? = some (some (.own q0 (.lst ds)))) (hs : PlainIx b) (h : WE X m env b fun y => asInt y fun j => ∃ d, atI ds j = some d ∧ Q d) : WE X m env (.Subscript (.Name x p2) b pos) Q :=
  let ⟨v, d1, d2⟩ := dx.v h2; we_ixOwn i (dx.n h1) v d1 d2 he hs h
theorem dl_lenOwn (dx : DX X P w K mg base N Vn L G S k) (bn : NoMg mg B) (h1 : At N i x) (h2 : At Vn j x) (h3 : At G j2 "len") {j3 : Nat} (h4 : At B j3 "len") {q0 : Addr} {ds : List D} (he : env[i]? = some (some (.own q0 (.lst ds)))) (h : Q (.int ds.length)) : WE X m env (.Call (.Name "len" p3) [.Name x p2] [] pos) Q :=
  let ⟨v, d1, d2⟩ := dx.v h2; we_lenOwn i (dx.n h1) v d1 d2 he (dx.g h3).1 (dx.b bn h4) rfl rfl h
theorem dl_set (dx : DX X P w K mg base N Vn L G S k) (h1 : At N i x) (h2 : At L j x) (hs : swapsWith e (some (.Name x p2)) pos.line X.env = pure false) (h : WE X m env e fun d => R.nx (env.set i (some (.frz d)))) : WS X m env (.Assign [.Name x p2] e pos) R :=
  let ⟨l1, l2⟩ := dx.l h2; ws_set i dx.ndX (dx.n h1) l1 l2 hs h
theorem dl_setL (dx : DX X P w K mg base N Vn L G S k) (h1 : At N i x) (h2 : At L j x) (hs : swapsWith e (some (.Name x p2)) pos.line X.env = pure false) (h : WL X m env e fun ds => ∀ p, R.nx (env.set i (some (.own p (.lst ds))))) : WS X m env (.Assign [.Name x p2] e pos) R :=
  let ⟨l1, l2⟩ := dx.l h2; ws_setL i dx.ndX (dx.n h1) l1 l2 hs h
theorem dl_retOwn (dx : DX X P w K mg base N Vn L G S k) (h1 : At N i x) (h2 : At Vn j x) {q0 : Addr} {ds : List D} (he : env[i]? = some (some (.own q0 (.lst ds)))) (h : R.rt (.lst ds) (env.set i (some (.frz (.lst ds))))) : WS X m env (.Return (some (.Name x p2)) pos) R :=
  let ⟨v, d1, d2⟩ := dx.v h2; ws_retOwn i (dx.n h1) v d1 d2 he h
theorem dl_setIx (dx : DX X P w K mg base N Vn L G S k) (h1 : At N i x) (h2 : At Vn j x) {q0 : Addr} {ds : List D} (he : env[i]? = some (some (.own q0 (.lst ds))))
    (ha : ∀ v, assign (.Subscript (.Name x p2) b p3) X.env v = (do
      let ov ← holding [v] (eval (.Name x p2) X.env)
      let iv ← holding [v, ov] (eval b X.env)
      standAt p3
      holding [v, ov, iv] (setItem ov iv v)
      release [v, ov, iv] []))
    (hs : swapsWithSole [.Subscript (.Name x p2) b p3] e pos.line X.env = pure false) (hw : swappedStores [.Subscript (.Name x p2) b p3] e X.env = pure none)
    (ha1 : (assignEach [.Subscript (.Name x p2) b p3] X.env).map (·.2) = [assign (.Subscript (.Name x p2) b p3) X.env])
    (h : WE X m env e fun d => WE X m env b fun y => asInt y fun j => ∃ n, ixN ds.length j = some n ∧ R.nx (env.set i (some (.own q0 (.lst (ds.set n d)))))) : WS X m env (.Assign [.Subscript (.Name x p2) b p3] e pos) R :=
  let ⟨v, d1, d2⟩ := dx.v h2; ws_setIx i (dx.n h1) v d1 d2 he (ps_setIx (dx.n h1) v d1 d2 ha hs hw ha1) h
theorem dl_append (dx : DX X P w K mg base N Vn L G S k) (h1 : At N i x) (h2 : At Vn j x) {q0 : Addr} {ds : List D} (he : env[i]? = some (some (.own q0 (.lst ds))))
    (hbm : ∀ {to : TE} {t : TA}, PE X (.Name x p2) to → PA X [e] t → PE X (.Call (.Attribute (.Name x p2) "append" p3) [e] [] p4) (tBM X.K "list" rAppend to t)) (hst : starEach [e] X.env = [(false, eval e X.env)])
    (hs : swapsWith (.Call (.Attribute (.Name x p2) "append" p3) [e] [] p4) none pos.line X.env = pure false) (hl : ds.length < 1000000)
    (h : WE X m env e fun d => R.nx (env.set i (some (.own q0 (.lst (ds ++ [d])))))) : WS X m env (.Expr (.Call (.Attribute (.Name x p2) "append" p3) [e] [] p4) pos) R :=
  let ⟨v, d1, d2⟩ := dx.v h2; ws_append i (dx.n h1) v d1 d2 hbm hst hs he hl h
/-- built-ins by their names: one argument, two -/
theorem dl_cb1 {r : List V → Hp → VK → Prop} {id : String} (hc : CallR X (.builtin id) r) (hv : bootBuiltins x = some (.builtin id)) (dx : DX X P w K mg base N Vn L G S k) (bn : NoMg mg B) (h3 : At G j x) (h4 : At B j2 x) (hs : starEach [a] X.env = [(false, eval a X.env)])
    (w : WE X m env a fun d => CD X.K m r [d] Q) : WE X m env (.Call (.Name x p2) [a] [] pos) Q :=
  let ⟨g1, g2, g3⟩ := dx.g h3; we_cb hc g1 (dx.b bn h4) hv g3 g2 hs rfl (wa_cons (w.mono fun _ h => wa_nil h) hs)
theorem dl_cb2 {r : List V → Hp → VK → Prop} {id : String} (hc : CallR X (.builtin id) r) (hv : bootBuiltins x = some (.builtin id)) (dx : DX X P w K mg base N Vn L G S k) (bn : NoMg mg B) (h3 : At G j x) (h4 : At B j2 x) (hs : starEach [a, b] X.env = [(false, eval a X.env), (false, eval b X.env)]) (hs2 : starEach [b] X.env = [(false, eval b X.env)])
    (w : WE X m env a fun d => WE X m env b fun d' => CD X.K m r [d, d'] Q) : WE X m env (.Call (.Name x p2) [a, b] [] pos) Q :=
  let ⟨g1, g2, g3⟩ := dx.g h3; we_cb hc g1 (dx.b bn h4) hv g3 g2 (by rw [hs, hs2]) (by rw [hs2]; rfl) (wa_cons (w.mono fun _ h => wa_cons (h.mono fun _ h => wa_nil h) hs2) (by rw [hs, hs2]))
theorem dl_ct1 {r : List V → Hp → VK → Prop} {T : String} (hc : CallR X (.type T) r) (hv : bootBuiltins x = some (.type T)) (dx : DX X P w K mg base N Vn L G S k) (bn : NoMg mg B) (h3 : At G j x) (h4 : At B j2 x) (hs : starEach [a] X.env = [(false, eval a X.env)])
    (w : WE X m env a fun d => CD X.K m r [d] Q) : WE X m env (.Call (.Name x p2) [a] [] pos) Q :=
  let ⟨g1, g2, g3⟩ := dx.g h3; we_ct hc g1 (dx.b bn h4) hv g3 g2 hs rfl (wa_cons (w.mono fun _ h => wa_nil h) hs)
theorem dl_lcb1 {r : List V → Hp → VK → Prop} {id : String} {Q : List D → Prop} (hc : CallR X (.builtin id) r) (hv : bootBuiltins x = some (.builtin id)) (dx : DX X P w K mg base N Vn L G S k) (bn : NoMg mg B) (h3 : At G j x) (h4 : At B j2 x) (hs : starEach [a] X.env = [(false, eval a X.env)])
    (w : WE X m env a fun d => CL X.K m r [d] Q) : WL X m env (.Call (.Name x p2) [a] [] pos) Q :=
  let ⟨g1, g2, g3⟩ := dx.g h3; wl_cb hc g1 (dx.b bn h4) hv g3 g2 hs rfl (wa_cons (w.mono fun _ h => wa_nil h) hs)
theorem dl_lct1 {r : List V → Hp → VK → Prop} {T : String} {Q : List D → Prop} (hc : CallR X (.type T) r) (hv : bootBuiltins x = some (.type T)) (dx : DX X P w K mg base N Vn L G S k) (bn : NoMg mg B) (h3 : At G j x) (h4 : At B j2 x) (hs : starEach [a] X.env = [(false, eval a X.env)])
    (w : WE X m env a fun d => CL X.K m r [d] Q) : WL X m env (.Call (.Name x p2) [a] [] pos) Q :=
  let ⟨g1, g2, g3⟩ := dx.g h3; wl_ct hc g1 (dx.b bn h4) hv g3 g2 hs rfl (wa_cons (w.mono fun _ h => wa_nil h) hs)
theorem boot_min : bootBuiltins "min" = some (.builtin "min") := by decide +kernel
theorem boot_max : bootBuiltins "max" = some (.builtin "max") := by decide +kernel
theorem boot_sum : bootBuiltins "sum" = some (.builtin "sum") := by decide +kernel
theorem boot_all : bootBuiltins "all" = some (.builtin "all") := by decide +kernel
theorem boot_any : bootBuiltins "any" = some (.builtin "any") := by decide +kernel
theorem boot_abs : bootBuiltins "abs" = some (.builtin "abs") := by decide +kernel
theorem boot_sorted : bootBuiltins "sorted" = some (.builtin "sorted") := by decide +kernel
theorem boot_isinstance : bootBuiltins "isinstance" = some (.builtin "isinstance") := by decide +kernel
theorem boot_int : bootBuiltins "int" = some (.type "int") := by decide +kernel
theorem boot_list : bootBuiltins "list" = some (.type "list") := by decide +kernel
theorem boot_tuple : bootBuiltins "tuple" = some (.type "tuple") := by decide +kernel
theorem boot_bool : bootBuiltins "bool" = some (.type "bool") := by decide +kernel
variable (dx : DX X P w K mg base N Vn L G S k) (bn : NoMg mg B)
include dx bn
theorem dl_len (h3 : At G j "len") (h4 : At B j2 "len") (hs : starEach [a] X.env = [(false, eval a X.env)]) (w : WE X m env a fun d => asSeq d fun xs => Q (.int xs.length)) : WE X m env (.Call (.Name "len" p2) [a] [] pos) Q :=
  dl_cb1 call_len_seq PySem.boot_len dx bn h3 h4 hs (w.mono fun _ h => cd_len h)
theorem dl_abs (h3 : At G j "abs") (h4 : At B j2 "abs") (hs : starEach [a] X.env = [(false, eval a X.env)]) (w : WE X m env a fun d => asInt d fun i => Q (.int (if i < 0 then -i else i))) : WE X m env (.Call (.Name "abs" p2) [a] [] pos) Q :=
  dl_cb1 call_abs boot_abs dx bn h3 h4 hs (w.mono fun _ h => cd_abs h)
theorem dl_min (h3 : At G j "min") (h4 : At B j2 "min") (hs : starEach [a, b] X.env = [(false, eval a X.env), (false, eval b X.env)]) (hs2 : starEach [b] X.env = [(false, eval b X.env)]) (w : WE X m env a fun x => WE X m env b fun y => asInt x fun i => asInt y fun j => Q (.int (min i j))) : WE X m env (.Call (.Name "min" p2) [a, b] [] pos) Q :=
  dl_cb2 (call_min2 dx.calm) boot_min dx bn h3 h4 hs hs2 (w.mono fun _ h => h.mono fun _ h => cd_min2 h)
theorem dl_max (h3 : At G j "max") (h4 : At B j2 "max") (hs : starEach [a, b] X.env = [(false, eval a X.env), (false, eval b X.env)]) (hs2 : starEach [b] X.env = [(false, eval b X.env)]) (w : WE X m env a fun x => WE X m env b fun y => asInt x fun i => asInt y fun j => Q (.int (max i j))) : WE X m env (.Call (.Name "max" p2) [a, b] [] pos) Q :=
  dl_cb2 (call_max2 dx.calm) boot_max dx bn h3 h4 hs hs2 (w.mono fun _ h => h.mono fun _ h => cd_max2 h)
theorem dl_int (h3 : At G j "int") (h4 : At B j2 "int") (hs : starEach [a] X.env = [(false, eval a X.env)]) (w : WE X m env a fun d => asNum d fun i => Q (.int i)) : WE X m env (.Call (.Name "int" p2) [a] [] pos) Q :=
  dl_ct1 call_int1 boot_int dx bn h3 h4 hs (w.mono fun _ h => cd_int h)
theorem dl_tuple (h3 : At G j "tuple") (h4 : At B j2 "tuple") (hs : starEach [a] X.env = [(false, eval a X.env)]) (w : WE X m env a fun d => asSeq d fun i => Q (.tup i)) : WE X m env (.Call (.Name "tuple" p2) [a] [] pos) Q :=
  dl_ct1 call_tuple_of boot_tuple dx bn h3 h4 hs (w.mono fun _ h => cd_tuple h)
theorem dl_list {Q : List D → Prop} (h3 : At G j "list") (h4 : At B j2 "list") (hs : starEach [a] X.env = [(false, eval a X.env)]) (w : WE X m env a fun d => asSeq d Q) : WL X m env (.Call (.Name "list" p2) [a] [] pos) Q :=
  dl_lct1 call_list_of boot_list dx bn h3 h4 hs (w.mono fun _ h => cl_list h)
theorem dl_sorted {Q : List D → Prop} (h3 : At G j "sorted") (h4 : At B j2 "sorted") (hs : starEach [a] X.env = [(false, eval a X.env)]) (w : WE X m env a fun d => asInts d fun ns => ∀ ms : List Int, ms.Perm ns → ms.Pairwise (· ≤ ·) → Q (ms.map D.int)) : WL X m env (.Call (.Name "sorted" p2) [a] [] pos) Q :=
  dl_lcb1 cr_sortedI boot_sorted dx bn h3 h4 hs (w.mono fun _ h => cl_sorted h)
theorem dl_sum (h3 : At G j "sum") (h4 : At B j2 "sum") (hs : starEach [a] X.env = [(false, eval a X.env)]) (w : WE X m env a fun d => asInts d fun i => Q (.int i.sum)) : WE X m env (.Call (.Name "sum" p2) [a] [] pos) Q :=
  dl_cb1 (cr_sum dx.calm) boot_sum dx bn h3 h4 hs (w.mono fun _ h => cd_sum h)
theorem dl_all (h3 : At G j "all") (h4 : At B j2 "all") (hs : starEach [a] X.env = [(false, eval a X.env)]) (w : WE X m env a fun d => asBls d fun i => Q (.bl (i.all id))) : WE X m env (.Call (.Name "all" p2) [a] [] pos) Q :=
  dl_cb1 (cr_all dx.calm) boot_all dx bn h3 h4 hs (w.mono fun _ h => cd_all h)
theorem dl_any (h3 : At G j "any") (h4 : At B j2 "any") (hs : starEach [a] X.env = [(false, eval a X.env)]) (w : WE X m env a fun d => asBls d fun i => Q (.bl (i.any id))) : WE X m env (.Call (.Name "any" p2) [a] [] pos) Q :=
  dl_cb1 (cr_any dx.calm) boot_any dx bn h3 h4 hs (w.mono fun _ h => cd_any h)
theorem dl_isi (h3 : At G j "isinstance") (h4 : At B j2 "isinstance") (hs : starEach [a, b] X.env = [(false, eval a X.env), (false, eval b X.env)]) (hs2 : starEach [b] X.env = [(false, eval b X.env)]) (w : WE X m env a fun x => WE X m env b fun c => ∃ n T r, x.tyn = some n ∧ c = .ty T ∧ kitB n T = some r ∧ Q (.bl r)) : WE X m env (.Call (.Name "isinstance" p2) [a, b] [] pos) Q :=
  dl_cb2 call_isi boot_isinstance dx bn h3 h4 hs hs2 (w.mono fun _ h => h.mono fun _ h => cd_isi h)
/-- the classes int, bool, list, str, tuple as values -/
theorem dl_ty {T : String} (hv : bootBuiltins x = some (.type T)) (h3 : At G j x) (h4 : At B j2 x) (h : Q (.ty T)) : WE X m env (.Name x pos) Q :=
  let ⟨g1, g2, g3⟩ := dx.g h3; we_bltn g1 (dx.b bn h4) hv g3 g2 h
omit bn
theorem dl_glob (h3 : At G j x) {d : D} {v : V} {u : Value} (hm : mg x = some u) (r : RelV v u) (hf : DL.flat d = some v) (h : Q d) : WE X m env (.Name x pos) Q :=
  let ⟨g1, g2, g3⟩ := dx.g h3; we_glob g1 (by rw [dx.mg_]; exact hm) r hf g2 h
end
end DL
set_option Elab.async false
set_option linter.all false
set_option maxRecDepth 100000
set_option autoImplicit false
/-! DL, part 9: defs, calls, methods, comprehensions and loops over a context told by its facts. -/
namespace DL
open PySem L2
section
variable {P : Program} {w : World} {K : PySem.W.Frag} {mg : Str → Option Value} {base : Heap}
theorem dx_of {N Vn L G ps : List Str} {x qual : Str} {st : Stmt} {f : Addr} {k : Nat} {CX : CXT} {cdv : Value} {Ar : Around} {outer : List Env} {s : Shared} {H : Hp} {E : XK} (S : FnScope N ps (defScope st))
    (hv : ∀ x ∈ Vn, VisOk (defScope st) x = true) (hl : ∀ x ∈ L, LocOk (defScope st) x = true) (hg : ∀ x ∈ G, GlOk (defScope st) x = true) (hr : Room k (Ar.deeper (PyProof.Rows.envOfC qual (defScope st) s.heap.objs.size f cdv))) :
    DX (cxOf CX P w K mg base N qual (defScope st) f cdv Ar outer s H E) P w K mg base N Vn L G (defScope st) k :=
  ⟨rfl, rfl, rfl, rfl, rfl, rfl, S.nd, rfl, hv, hl, fun _ _ => rfl, hg, rfl, hr, L2.passes_of (X := cxOf CX P w K mg base N qual (defScope st) f cdv Ar outer s H E) rfl⟩
theorem Fun.okD2 {x qual : Str} {st : Stmt} {f : Addr} {fd : FuncData} {N Vn L G ps : List Str} {k : Nat} {A : List D → (D → Prop) → Prop} (Fn : Fun K x qual st f fd) (S : FnScope N ps (defScope st))
    (hv : ∀ x ∈ Vn, VisOk (defScope st) x = true) (hl : ∀ x ∈ L, LocOk (defScope st) x = true) (hg : ∀ x ∈ G, GlOk (defScope st) x = true)
    (hb : ∀ (X : Cx) (ds : List D) (Q : D → Prop), DX X P w K mg base N Vn L G (defScope st) k → ds.length = ps.length → A ds Q → WSs X none (envOf N ds) (defBody st) { nx := fun _ => Q .non, rt := fun d _ => Q d }) :
    FnOk P w K mg base (L2.CX P w) (k + 1) f fd ps (spD K none ps.length A) :=
  Fun.okD Fn S fun cdv Ar outer s H E ds Q hr h1 h2 => hb _ ds Q (dx_of (x := x) S hv hl hg hr) h1 h2
theorem Fun.okB2 {x qual : Str} {st : Stmt} {f : Addr} {fd : FuncData} {N Vn L G ps : List Str} {k : Nat} {A : List D → (D → Prop) → Prop} (Fn : Fun K x qual st f fd) (S : FnScope N ps (defScope st))
    (hv : ∀ x ∈ Vn, VisOk (defScope st) x = true) (hl : ∀ x ∈ L, LocOk (defScope st) x = true) (hg : ∀ x ∈ G, GlOk (defScope st) x = true)
    (hb : ∀ (X : Cx) (b : Mem) (ds : List D) (Q : D → Prop), DX X P w K mg base N Vn L G (defScope st) k → ds.length + 1 = ps.length → A ds Q → WSs X (some b) (envOf N (.ref b :: ds)) (defBody st) { nx := fun _ => Q .non, rt := fun d _ => Q d }) :
    FnOk P w K mg base (L2.CX P w) (k + 1) f fd ps (spB K ps.length A) :=
  Fun.okB Fn S fun cdv Ar outer s H E b ds Q hr h1 h2 => hb _ b ds Q (dx_of (x := x) S hv hl hg hr) h1 h2
theorem Fun.okDraw2 {x qual : Str} {st : Stmt} {f : Addr} {fd : FuncData} {N Vn L G ps : List Str} {k : Nat} (Fn : Fun K x qual st f fd) (S : FnScope N ps (defScope st)) (hps : ps.length = 2)
    (hv : ∀ x ∈ Vn, VisOk (defScope st) x = true) (hl : ∀ x ∈ L, LocOk (defScope st) x = true) (hg : ∀ x ∈ G, GlOk (defScope st) x = true)
    (hb : ∀ (X : Cx) (n : Int) (ns : List Int) (i : Nat) (q g c : Int) (Q : D → Prop), DX X P w K mg base N Vn L G (defScope st) k →
      1 ≤ n → n < 2 ^ 4000 → 0 ≤ q → q.natAbs < 2 ^ 1100000 → (∀ z ∈ ns, z.natAbs < 2 ^ 1090000) → (∀ r : Int, 0 ≤ r → r < n → Q (.int r)) →
      ∀ b l : Addr, WSs X none (some (.own b (.lst (bagD l ns i q g c))) :: some (.frz (.int n)) :: List.replicate (N.length - 2) none) (defBody st)
        { nx := fun _ => False, rt := fun d env => (∃ (i : Nat) (q g c : Int), env[0]? = some (some (.own b (.lst (bagD l ns i q g c)))) ∧ 0 ≤ q ∧ q.natAbs < 2 ^ 1100000) ∧ ∃ r : Int, d = .int r ∧ Q d }) :
    FnOk P w K mg base (L2.CX P w) (k + 1) f fd ps (spB K 2 A_draw) :=
  Fun.okDraw Fn S hps fun cdv Ar outer s H E n ns i q g c Q hr h1 h2 h3 h4 h5 h6 b l => hb _ n ns i q g c Q (dx_of (x := x) S hv hl hg hr) h1 h2 h3 h4 h5 h6 b l
/-- the def at its name in the module: all that a call of it asks -/
structure FnAt (P : Program) (w : World) (K : PySem.W.Frag) (mg : Str → Option Value) (base : Heap) (x : Str) (k : Nat) (ps : List Str) (sp : Sp) : Prop where
  ex : ∃ f fd, FnOk P w K mg base (L2.CX P w) k f fd ps sp ∧ mg x = some (.ref f) ∧ PySem.W.keepIn K (.ref f) = true ∧ Binds K fd ps []
/-- a method of the class at C -/
structure MeAt (P : Program) (w : World) (K : PySem.W.Frag) (mg : Str → Option Value) (base : Heap) (C : Addr) (x : Str) (k : Nat) (ps : List Str) (sp : Sp) : Prop where
  ex : ∃ f fd, FnOk P w K mg base (L2.CX P w) k f fd ps sp ∧ Meth K C x f ∧ Binds K fd ps []
end
section
variable {X : Cx} {P : Program} {w : World} {K : PySem.W.Frag} {mg : Str → Option Value} {base : Heap} {N Vn L G B : List Str} {S : Scope} {k k2 n : Nat} {x : Str} {i j j2 : Nat}
variable {m : Option Mem} {env : Ev} {a b c e iter elt o tg : Expr} {es : List Expr} {Q : D → Prop} {pos p2 p3 p4 pr : Pos} {R : DEnds} {rest body els : List Stmt} {ps : List Str} {A : List D → (D → Prop) → Prop} {C : Addr}
theorem dl_pure (dx : DX X P w K mg base N Vn L G S k) (F : FnAt P w K mg base x k2 ps (spD K none n A)) (h3 : At G j x) (hk : k2 ≤ k) (he : starEach (e :: es) X.env = (false, eval e X.env) :: starEach es X.env) (hpl : (backTo pos (starEach es X.env)).any (·.1) = false)
    (hw : WA X m env (e :: es) fun ds => ds.length = n ∧ A ds Q) : WE X m env (.Call (.Name x p2) (e :: es) [] pos) Q := by
  obtain ⟨f, fd, Fn, hm, hkp, hb⟩ := F.ex
  obtain ⟨g1, g2, g3⟩ := dx.g h3
  obtain rfl := dx.prog
  obtain rfl := dx.w_
  obtain rfl := dx.K_
  obtain rfl := dx.mg_
  obtain rfl := dx.base_
  exact we_pure Fn (dx.room.mono hk) g1 hm hkp hb g2 he hpl hw
theorem dl_bag {bg : Mem} (dx : DX X P w K mg base N Vn L G S k) (F : FnAt P w K mg base x k2 ps (spB K n A)) (h3 : At G j x) (hk : k2 ≤ k) (he : starEach (e :: es) X.env = (false, eval e X.env) :: starEach es X.env) (hpl : (backTo pos (starEach es X.env)).any (·.1) = false)
    (hw : WA X (some bg) env (e :: es) fun ds => ds.length = n ∧ ∃ es, ds = .ref bg :: es ∧ A es Q) : WE X (some bg) env (.Call (.Name x p2) (e :: es) [] pos) Q := by
  obtain ⟨f, fd, Fn, hm, hkp, hb⟩ := F.ex
  obtain ⟨g1, g2, g3⟩ := dx.g h3
  obtain rfl := dx.prog
  obtain rfl := dx.w_
  obtain rfl := dx.K_
  obtain rfl := dx.mg_
  obtain rfl := dx.base_
  exact we_bag Fn (dx.room.mono hk) g1 hm hkp hb g2 he hpl hw
theorem names_none {gs : List (Str × V)} {fs : List (Str × D)} {f : Str} (h : gs.map (·.1) = fs.map (·.1)) (hl : fs.lookup f = none) : gs.lookup f = none := by
  induction gs generalizing fs with
  | nil => rfl
  | cons g gs ih =>
    cases fs with
    | nil => cases h
    | cons p fs =>
      obtain ⟨gn, gv⟩ := g
      obtain ⟨pn, pd⟩ := p
      rw [List.map_cons, List.map_cons] at h
      injection h with e1 e2
      simp only at e1
      subst e1
      rw [List.lookup_cons] at hl ⊢
      cases hb : (f == gn) with
      | true => rw [hb] at hl; cases hl
      | false => rw [hb] at hl; exact ih e2 hl
/-- o.m(e, ..), a method that changes nothing -/
theorem dl_meth {pl : Sem Bool} {apos : Pos} (dx : DX X P w K mg base N Vn L G S k) (c : Cls K C) (F : MeAt P w K mg base C x k2 ps (spD K none n A)) (hk : k2 ≤ k)
    (he : starEach (e :: es) X.env = (false, eval e X.env) :: starEach es X.env) (hpl : (backTo pos (starEach es X.env)).any (·.1) = false)
    (ht : eval (.Call (.Attribute o x apos) (e :: es) [] pos) X.env = (do
      let ov ← eval o X.env
      standAt apos.atName
      let (f, first) ← holding [ov] (getMethod ov x pl)
      callWith pos f first (backTo pos (starEach (e :: es) X.env)) (backToKw pos (keywordEach [] X.env))))
    (hw : WE X m env o fun d => ∃ fs, d = .ins C fs ∧ fs.lookup x = none ∧ WA X m env (e :: es) fun ds => ds.length + 1 = n ∧ A (d :: ds) Q) : WE X m env (.Call (.Attribute o x apos) (e :: es) [] pos) Q := by
  obtain ⟨f, fd, Fn, hm, hb⟩ := F.ex
  obtain rfl := dx.prog
  obtain rfl := dx.w_
  obtain rfl := dx.K_
  obtain rfl := dx.mg_
  obtain rfl := dx.base_
  refine ⟨fun σ H0 F H kk g ev t => tec (pe_meth pe_can c hm Fn (dx.room.mono hk) hb .nil passL pa_can he hpl ht) ?_⟩
  refine hw.run σ H0 F H _ g ev fun v d F1 H1 s1 hv q => ?_
  obtain ⟨fs, rfl, hl, hq⟩ := q
  have hv0 := hv
  cases hv with
  | ins h1 h2 h3 =>
    rename_i ad dd gs
    refine ⟨ad, dd, gs, rfl, s1.good.sub _ _ h1, names_none h2 hl, ?_⟩
    refine hq.run σ H0 F1 H1 _ s1.good (ev.step s1) fun vs ds F2 H2 s2 hvs q => ?_
    rw [List.append_nil]
    exact ⟨by show vs.length + 1 = n; rw [hvs.length]; exact q.1, F2, _, Q, s2.good.any, .cons (hv0.mono s2.fs) hvs, q.2, fun v d F3 H3 s3 hv hP => ((t.after s1).after s2) v d F3 H3 (s3.any s2.good) hv hP⟩
theorem dl_meth0 {pl : Sem Bool} {apos : Pos} (dx : DX X P w K mg base N Vn L G S k) (c : Cls K C) (F : MeAt P w K mg base C x k2 ps (spD K none n A)) (hk : k2 ≤ k)
    (ht : eval (.Call (.Attribute o x apos) [] [] pos) X.env = (do
      let ov ← eval o X.env
      standAt apos.atName
      let (f, first) ← holding [ov] (getMethod ov x pl)
      callWith pos f first (backTo pos (starEach [] X.env)) (backToKw pos (keywordEach [] X.env))))
    (hw : WE X m env o fun d => ∃ fs, d = .ins C fs ∧ fs.lookup x = none ∧ 1 = n ∧ A [d] Q) : WE X m env (.Call (.Attribute o x apos) [] [] pos) Q := by
  obtain ⟨f, fd, Fn, hm, hb⟩ := F.ex
  obtain rfl := dx.prog
  obtain rfl := dx.w_
  obtain rfl := dx.K_
  obtain rfl := dx.mg_
  obtain rfl := dx.base_
  refine ⟨fun σ H0 F H kk g ev t => tec (pe_meth0 pe_can c hm Fn (dx.room.mono hk) hb .nil passL ht) ?_⟩
  refine hw.run σ H0 F H _ g ev fun v d F1 H1 s1 hv q => ?_
  obtain ⟨fs, rfl, hl, hn, hq⟩ := q
  have hv0 := hv
  cases hv with
  | ins h1 h2 h3 =>
    rename_i ad dd gs
    refine ⟨ad, dd, gs, rfl, s1.good.sub _ _ h1, names_none h2 hl, ?_⟩
    exact ⟨hn, F1, _, Q, s1.good.any, .cons hv0 .nil, hq, fun v d F3 H3 s3 hv hP => (t.after s1) v d F3 H3 (s3.any s1.good) hv hP⟩
/-! ### comprehensions -/
theorem blk_dx {scope : Scope} {Vc Gc : List Str} (dx : DX X P w K mg base N Vn L G S k) (hv : ∀ x ∈ Vc, VisOk (relS scope S) x = true) (hg : ∀ x ∈ Gc, GlOk (relS scope S) x = true) (s : Shared) (H : Hp) (C : Addr) (cl : List (Str × Addr)) (fp : List Addr) :
    DX (X.blk s H scope (compEnvC scope cl C X.env) fp) P w K mg base N Vc [] Gc (relS scope S) k :=
  ⟨dx.prog, dx.w_, dx.K_, dx.mg_, dx.base_, dx.N_, dx.nd, by rw [← dx.S_]; rfl, hv, fun _ h => by simp at h, fun _ h => by simp at h, hg, dx.calm, dx.room, PassesOwn.never⟩
theorem blk_pg {scope : Scope} {t : Nat} (dx : DX X P w K mg base N Vn L G S k) (h1 : At N t x) (hx : LocOk scope x = true) (s : Shared) (H : Hp) (C : Addr) (cl : List (Str × Addr)) (fp : List Addr) :
    PG (X.blk s H scope (compEnvC scope cl C X.env) fp) (.Name x p2) (gName t) := by
  have dx' := blk_dx (Vc := []) (Gc := []) (scope := scope) dx (fun _ h => by simp at h) (fun _ h => by simp at h) s H C cl fp
  unfold LocOk at hx
  have hl : scope.names.lookup x = some .local ∨ scope.names.lookup x = some .cell := by
    cases e : scope.names.lookup x with
    | none => rw [e] at hx; cases hx
    | some kd =>
      rw [e] at hx
      cases kd <;> first | exact .inl rfl | exact .inr rfl | cases hx
  have hl2 : (relS scope S).names.lookup x = some .local ∨ (relS scope S).names.lookup x = some .cell := by
    rcases hl with hl | hl
    · exact .inl (lookup_relS_keep (by decide) hl)
    · exact .inr (lookup_relS_keep (by decide) hl)
  refine pg_name (X := X.blk s H scope (compEnvC scope cl C X.env) fp) dx.ndX (dx.n h1) (by unfold L2.Loc; rw [dx'.S_]; exact hl2) ?_
  rw [dx'.S_]
  rcases hl with hl | hl
  · exact .inr (lookup_relS_keep (by decide) hl)
  · refine .inl ?_
    show (scope.names.lookup x == some .cell) = true
    rw [hl]
    rfl
theorem dl_comp (t : Nat) (own : List (Str × Nat)) (Vc Gc : List Str) {scope : Scope} (dx : DX X P w K mg base N Vn L G S k) (ok : blkC N S scope own = true) (hown : own.map (·.2) = [t]) (h1 : At N t x) (hx : LocOk scope x = true) (hv : ∀ x ∈ Vc, VisOk (relS scope S) x = true) (hg : ∀ x ∈ Gc, GlOk (relS scope S) x = true)
    (hs : ∀ y, foldedSetIterable iter X.env y = pure y) {Q : List D → Prop}
    (hw : WE X m env iter fun x => asLst x fun ds => ds.length ≤ 1000000 ∧ ∃ Pi : Nat → D → Prop, (∀ (i : Nat) (d : D), ds[i]? = some d → ∀ X', DX X' P w K mg base N Vc [] Gc (relS scope S) k → X'.K = X.K → WE X' m ((env.set t none).set t (some (.frz d))) elt (Pi i)) ∧ ∀ es : List D, es.length = ds.length → (∀ (i : Nat) (e : D), es[i]? = some e → Pi i e) → Q es) :
    WL X m env (.ListComp elt [⟨.Name x p2, iter, [], 0⟩] scope pos) Q := by
  refine wl_comp t own hown dx.calm dx.ndX (by rw [dx.N_, dx.S_]; exact blkOk_by ok) (blk_pg dx h1 hx) hs (hw.mono fun d q => ?_)
  cases d <;> first | exact q.elim | skip
  obtain ⟨hz, Pi, h2, h3⟩ := q
  exact ⟨hz, Pi, fun i d hd => ⟨fun s H C cl fp => h2 i d hd _ (blk_dx dx hv hg s H C cl fp) rfl⟩, h3⟩
theorem dl_compR (t : Nat) (own : List (Str × Nat)) (Vc Gc : List Str) {scope : Scope} (dx : DX X P w K mg base N Vn L G S k) (bn : NoMg mg B) (ok : blkC N S scope own = true) (hown : own.map (·.2) = [t]) (h1 : At N t x) (hx : LocOk scope x = true) (hv : ∀ x ∈ Vc, VisOk (relS scope S) x = true) (hg : ∀ x ∈ Gc, GlOk (relS scope S) x = true)
    (h3 : At G j "range") (h4 : At B j2 "range") (hst : starEach [a] X.env = [(false, eval a X.env)]) (hs : ∀ y, foldedSetIterable (.Call (.Name "range" p3) [a] [] pr) X.env y = pure y) {Q : List D → Prop}
    (hw : WE X m env a fun x => asInt x fun n => (-1000000 ≤ n ∧ n ≤ 1000000) ∧ ∃ Pi : Nat → D → Prop, (∀ (i : Nat), (i : Int) < n → ∀ X', DX X' P w K mg base N Vc [] Gc (relS scope S) k → X'.K = X.K → WE X' m ((env.set t none).set t (some (.frz (.int i)))) elt (Pi i)) ∧ ∀ es : List D, es.length = n.toNat → (∀ (i : Nat) (e : D), es[i]? = some e → Pi i e) → Q es) :
    WL X m env (.ListComp elt [⟨.Name x p2, .Call (.Name "range" p3) [a] [] pr, [], 0⟩] scope pos) Q := by
  refine wl_compR t own hown dx.calm dx.ndX (by rw [dx.N_, dx.S_]; exact blkOk_by ok) (blk_pg dx h1 hx) (dx.g h3).1 (dx.b bn h4) hst hs (hw.mono fun d q => ?_)
  cases d <;> first | exact q.elim | skip
  obtain ⟨hz, Pi, h2, h3⟩ := q
  exact ⟨hz, Pi, fun i hd => ⟨fun s H C cl fp => h2 i hd _ (blk_dx dx hv hg s H C cl fp) rfl⟩, h3⟩
/-! ### loops -/
theorem dl_forL (t : Nat) (dx : DX X P w K mg base N Vn L G S k) (h1 : At N t x) (h2 : At L j x) (hs : ∀ y, foldedSetIterable iter X.env y = pure y)
    (h : WE X m env iter fun d => asLst d fun ds => ∃ I : Nat → Ev → Prop, I 0 env ∧
      (∀ (i : Nat) (d : D) (env' : Ev), ds[i]? = some d → I i env' → WSs X m (env'.set t (some (.frz d))) body { nx := I (i + 1), ct := I (i + 1), bk := R.nx, rt := R.rt, ex := R.ex }) ∧ ∀ env', I ds.length env' → R.nx env') :
    WS X m env (.For (.Name x p2) iter body [] pos) R :=
  let ⟨l1, l2⟩ := dx.l h2; ws_forL t dx.pass dx.calm dx.ndX (dx.n h1) l1 l2 hs h
theorem dl_forR (t : Nat) (dx : DX X P w K mg base N Vn L G S k) (bn : NoMg mg B) (h1 : At N t x) (h2 : At L j x) {j3 j4 : Nat} (h3 : At G j3 "range") (h4 : At B j4 "range") (hst : starEach [a] X.env = [(false, eval a X.env)])
    (hs : ∀ y, foldedSetIterable (.Call (.Name "range" p3) [a] [] pr) X.env y = pure y)
    (h : WE X m env a fun d => asInt d fun n => (-1000000000 ≤ n ∧ n ≤ 1000000000) ∧ ∃ I : Nat → Ev → Prop, I 0 env ∧
      (∀ (i : Nat) (env' : Ev), (i : Int) < n → I i env' → WSs X m (env'.set t (some (.frz (.int i)))) body { nx := I (i + 1), ct := I (i + 1), bk := R.nx, rt := R.rt, ex := R.ex }) ∧ ∀ env', I n.toNat env' → R.nx env') :
    WS X m env (.For (.Name x p2) (.Call (.Name "range" p3) [a] [] pr) body [] pos) R :=
  let ⟨l1, l2⟩ := dx.l h2; ws_forR t dx.pass dx.calm dx.ndX (dx.n h1) l1 l2 (dx.g h3).1 (dx.b bn h4) hst hs h
end
section
variable {X : Cx} {m : Option Mem} {env : Ev} {R : DEnds} {st : Stmt} {rest : List Stmt}
/-- what holds between two statements -/
theorem wss_cut (J : Ev → Prop) (h1 : WS X m env st { R with nx := J }) (h2 : ∀ env', J env' → WSs X m env' rest R) : WSs X m env (st :: rest) R :=
  wss_cons ⟨fun σ F0 H0 Fl F H De W s o => h1.run σ F0 H0 Fl F H De W s ⟨fun σ' env' F' H' s' q => o.nx σ' env' F' H' s' (h2 env' q), o.rt, o.bk, o.ct, o.tk, o.ex⟩⟩
theorem ite_d {p : Prop} [Decidable p] {A B : Prop} (h1 : p → A) (h2 : ¬ p → B) : if decide p = true then A else B := by
  by_cases h : p
  · rw [if_pos (decide_eq_true h)]; exact h1 h
  · rw [if_neg (by rw [decide_eq_false h]; exact Bool.false_ne_true)]; exact h2 h
theorem ite_nd {p : Prop} [Decidable p] {A B : Prop} (h1 : ¬ p → A) (h2 : p → B) : if (!decide p) = true then A else B := by
  by_cases h : p
  · rw [if_neg (by rw [decide_eq_true h]; exact Bool.false_ne_true)]; exact h2 h
  · rw [if_pos (by rw [decide_eq_false h]; rfl)]; exact h1 h
theorem ite_t {A B : Prop} (h : A) : if true = true then A else B := by rw [if_pos rfl]; exact h
theorem ite_f {A B : Prop} (h : B) : if false = true then A else B := by rw [if_neg Bool.false_ne_true]; exact h
theorem ite_b {b : Bool} {A B : Prop} (h1 : b = true → A) (h2 : b = false → B) : if b = true then A else B := by
  cases b with
  | true => exact ite_t (h1 rfl)
  | false => exact ite_f (h2 rfl)
end
end DL
set_option Elab.async false
set_option linter.all false
set_option maxRecDepth 100000
set_option autoImplicit false
/-! DL, part 10: instances: made, their attributes stored, their special methods. -/
namespace DL
open PySem L2
def putD (f : Str) (d : D) : List (Str × D) → List (Str × D)
  | [] => [(f, d)]
  | (g, x) :: r => if g = f then (g, d) :: r else (g, x) :: putD f d r
theorem put_names (f : Str) (v : V) (d : D) : ∀ {gs : List (Str × V)} {fs : List (Str × D)}, gs.map (·.1) = fs.map (·.1) → (putF f v gs).map (·.1) = (putD f d fs).map (·.1)
  | [], [], _ => rfl
  | [], _ :: _, h => by cases h
  | _ :: _, [], h => by cases h
  | (gn, gv) :: gs, (pn, pd) :: fs, h => by
    rw [List.map_cons, List.map_cons] at h
    injection h with e1 e2
    simp only at e1
    subst e1
    unfold putF putD
    by_cases hf : gn = f
    · rw [if_pos hf, if_pos hf, List.map_cons, List.map_cons, e2]
    · rw [if_neg hf, if_neg hf, List.map_cons, List.map_cons, put_names f v d e2]
theorem put_all {K : PySem.W.Frag} {F : Hp} (f : Str) {v : V} {d : D} (hv : Is K F v d) : ∀ {gs : List (Str × V)} {fs : List (Str × D)}, gs.map (·.1) = fs.map (·.1) → IsAll K F (gs.map (·.2)) (fs.map (·.2)) → IsAll K F ((putF f v gs).map (·.2)) ((putD f d fs).map (·.2))
  | [], [], _, _ => .cons hv .nil
  | [], _ :: _, h, _ => by cases h
  | _ :: _, [], h, _ => by cases h
  | (gn, gv) :: gs, (pn, pd) :: fs, h, a => by
    rw [List.map_cons, List.map_cons] at h a
    injection h with e1 e2
    simp only at e1
    subst e1
    cases a with
    | cons a1 a2 =>
      unfold putF putD
      by_cases hf : gn = f
      · rw [if_pos hf, if_pos hf]; exact .cons hv a2
      · rw [if_neg hf, if_neg hf]; exact .cons a1 (put_all f hv e2 a2)
section
variable {X : Cx} {P : Program} {w : World} {K : PySem.W.Frag} {mg : Str → Option Value} {base : Heap} {N Vn L G B : List Str} {S : Scope} {k k2 n : Nat} {x f : Str} {i j j2 : Nat}
variable {m : Option Mem} {env : Ev} {a b c e iter elt o tg : Expr} {es : List Expr} {Q : D → Prop} {pos p2 p3 p4 pr : Pos} {R : DEnds} {rest body els : List Stmt} {ps : List Str} {C : Addr}
/-- self.f = e while the instance is being made -/
theorem dl_setFld (dx : DX X P w K mg base N Vn L G S k) (h1 : At N i x) (h2 : At Vn j x) {q0 : Addr} {fs : List (Str × D)} (he : env[i]? = some (some (.own q0 (.obj C fs)))) (hs : swapsWith e (some (.Attribute (.Name x p2) f p3)) pos.line X.env = pure false)
    (hc : Cls K C) (hn : NoAttr K C f) (hl : fs.length < 1000) (h : WE X m env e fun d => R.nx (env.set i (some (.own q0 (.obj C (putD f d fs)))))) : WS X m env (.Assign [.Attribute (.Name x p2) f p3] e pos) R := by
  obtain ⟨v, d1, d2⟩ := dx.v h2
  obtain rfl := dx.K_
  refine ⟨fun σ F0 H0 Fl F H De W s o => tsc (ps_fld (pe_var (dx.n h1) v d1 d2) pe_can hs) ?_⟩
  obtain ⟨v, hσ, ho, rfl, hm, hF, h0, hH, da, gs, rfl, hnm, ha⟩ := s.env.at_ i _ he
  refine h.run σ H0 F H _ s.good s.env fun v d F1 H1 s1 hv q => ?_
  have hH1 := s1.keep q0 _ hm hH
  have hF1 := s1.noF hF ⟨_, hH⟩
  refine ⟨.ref q0, hσ, q0, C, da, gs, rfl, hH1, hc, hn, ?_, ?_⟩
  · have e := congrArg List.length hnm
    rw [List.length_map, List.length_map] at e
    omega
  · exact o.nx _ _ F1 _ ⟨(s.step.trans s1).mut hF1 hm h0, (s.env.step s1).mut he (.ofO (put_names f v d hnm) (put_all f hv hnm (ha.mono s1.fs))), s.fl.trans s1.fs⟩ q
end
/-- what an __init__ promises: A tells of the arguments which attributes there are behind it -/
def spI (K : PySem.W.Frag) (C : Addr) (n : Nat) (A : List D → (List (Str × D) → Prop) → Prop) : Sp := fun vs H Q _ => vs.length = n + 1 ∧ ∃ x ws F ds P, vs = .ref x :: ws ∧ Good K none F H ∧ F x = none ∧ (∃ dx, H x = some (.ins C dx [])) ∧ IsAll K F ws ds ∧ A ds P ∧
  ∀ F' H' dx gs fs, Same F F' → Good K none F' H' → F' x = none → (∀ a, F a = none → F' a ≠ none → H a = none) → (∀ a o, a ≠ x → H a = some o → H' a = some o) → H' x = some (.ins C dx gs) → gs.map (·.1) = fs.map (·.1) → IsAll K F' (gs.map (·.2)) (fs.map (·.2)) → P fs → Q .non H'
section
variable {P : Program} {w : World} {K : PySem.W.Frag} {mg : Str → Option Value} {base : Heap}
theorem Fun.okInit {x qual : Str} {st : Stmt} {f C : Addr} {fd : FuncData} {N Vn L G ps : List Str} {k n : Nat} {A : List D → (List (Str × D) → Prop) → Prop} (Fn : Fun K x qual st f fd) (S : FnScope N ps (defScope st)) (hps : ps.length = n + 1)
    (hv : ∀ x ∈ Vn, VisOk (defScope st) x = true) (hl : ∀ x ∈ L, LocOk (defScope st) x = true) (hg : ∀ x ∈ G, GlOk (defScope st) x = true)
    (hb : ∀ (X : Cx) (q0 : Addr) (ds : List D) (Q : List (Str × D) → Prop), DX X P w K mg base N Vn L G (defScope st) k → ds.length = n → A ds Q →
      WSs X none (some (.own q0 (.obj C [])) :: (ds.map fun d => some (.frz d)) ++ List.replicate (N.length - (n + 1)) none) (defBody st)
        { nx := fun env => ∃ fs, env[0]? = some (some (.own q0 (.obj C fs))) ∧ Q fs, rt := fun _ _ => False }) :
    FnOk P w K mg base (L2.CX P w) (k + 1) f fd ps (spI K C n A) := by
  refine Fn.okX S (fun vs H Q E h => by rw [hps]; exact h.1) fun cdv Ar outer s H vs Q E hr h => ⟨_, pss_can, ?_⟩
  obtain ⟨hlen, b, ws, F, ds, Q', rfl, g, hFb, ⟨db, hH⟩, ha, hA, t⟩ := h
  have hd : ds.length = n := by rw [← ha.length]; simpa using hlen
  let H0 : Hp := fun a => if a = b then none else H a
  have h0b : H0 b = none := if_pos rfl
  have h0 : ∀ a, a ≠ b → H0 a = H a := fun a h => if_neg h
  have hst : (some (.own b (.obj C [])) :: (ds.map fun d => some (.frz d)) ++ List.replicate (N.length - (n + 1)) none : Ev) = (envOf N (.ref b :: ds)).set 0 (some (.own b (.obj C []))) := by
    unfold envOf
    simp [hd]
  have e0 : Envs K none H F H (L2.start N (.ref b :: ws)) (envOf N (.ref b :: ds)) := envs_start (.cons (.ref b) ha)
  have start : Sta K none F H0 F F H (L2.start N (.ref b :: ws)) (some (.own b (.obj C [])) :: (ds.map fun d => some (.frz d)) ++ List.replicate (N.length - (n + 1)) none) := by
    rw [hst]
    have frz : ∀ (j : Nat) (s : Slot), (envOf N (.ref b :: ds))[j]? = some (some s) → ∃ d, s = .frz d := fun j s e => by
      unfold envOf at e
      rcases Nat.lt_or_ge j (D.ref b :: ds).length with hi | hi
      · rw [List.getElem?_append_left (by simpa using hi), List.getElem?_map] at e
        cases e1 : (D.ref b :: ds)[j]? with
        | none => rw [e1] at e; cases e
        | some d => rw [e1] at e; cases e; exact ⟨d, rfl⟩
      · rw [List.getElem?_append_right (by simpa using hi)] at e
        have := List.eq_of_mem_replicate (List.mem_of_getElem? e)
        cases this
    refine ⟨⟨Same.refl _, g, fun a h1 h2 => absurd h1 h2, fun a o _ h => ?_⟩, ⟨fun j s e => ?_, by rw [List.length_set]; exact e0.len, fun j k ds' es p hjk e1 e2 => ?_⟩, Same.refl _⟩
    · by_cases hab : a = b
      · subst hab; rw [h0b] at h; cases h
      · rw [h0 a hab] at h; exact h
    · rcases set_at e with ⟨rfl, hl, e⟩ | ⟨hij, e⟩
      · cases e
        exact ⟨.ref b, rfl, _, rfl, (fun z => nomatch z), hFb, h0b, hH, db, [], rfl, rfl, .nil⟩
      · obtain ⟨d, rfl⟩ := frz j s e
        obtain ⟨v, h1, h2⟩ := e0.at_ j _ e
        exact ⟨v, h1, h2⟩
    · rcases set_at e1 with ⟨rfl, hl, e⟩ | ⟨hij, e⟩
      · rcases set_at e2 with ⟨z, _, _⟩ | ⟨_, e⟩
        · exact hjk z
        · obtain ⟨d, z⟩ := frz k _ e; cases z
      · obtain ⟨d, z⟩ := frz j _ e; cases z
  refine (hb _ b ds Q' (dx_of (x := x) S hv hl hg hr) hd hA).run _ F H0 F F H _ (fun _ _ _ _ => False) start ?_
  refine ⟨fun σ env F' H' s' q => ?_, fun _ _ _ _ _ _ _ _ z => z.elim, fun _ _ _ _ _ z => z.elim, fun _ _ _ _ _ z => z.elim, takes0, fun _ _ _ _ _ _ _ _ _ z => z.elim⟩
  obtain ⟨fs, he, q⟩ := q
  obtain ⟨v0, hσ0, ho, rfl, _, hFp, _, hHp, da, gs, rfl, hn, hap⟩ := s'.env.at_ 0 _ he
  refine t F' H' da gs fs s'.step.fs s'.step.good hFp (fun a h1 h2 => ?_) (fun a o hab ho => ?_) hHp hn hap q
  · by_cases hab : a = b
    · subst hab; exact absurd hFp h2
    · rw [← h0 a hab]; exact s'.step.new a h1 h2
  · exact s'.step.keep a o (fun z => nomatch z) (by rw [h0 a hab]; exact ho)
end
/-- the class at its name: all that C(..) asks -/
structure MkAt (P : Program) (w : World) (K : PySem.W.Frag) (mg : Str → Option Value) (base : Heap) (x : Str) (C : Addr) (k : Nat) (ps : List Str) (sp : Sp) : Prop where
  ex : ∃ f fd, Mk K C f ∧ FnOk P w K mg base (L2.CX P w) k f fd ps sp ∧ Binds K fd ps [] ∧ mg x = some (.ref C)
section
variable {X : Cx} {P : Program} {w : World} {K : PySem.W.Frag} {mg : Str → Option Value} {base : Heap} {N Vn L G B : List Str} {S : Scope} {k k2 n : Nat} {x f : Str} {i j j2 : Nat}
variable {m : Option Mem} {env : Ev} {a b c e iter elt o tg : Expr} {es : List Expr} {Q : D → Prop} {pos p2 p3 p4 pr : Pos} {R : DEnds} {rest body els : List Stmt} {ps : List Str} {C : Addr} {A : List D → (D → Prop) → Prop}
theorem dl_make {A : List D → (List (Str × D) → Prop) → Prop} (dx : DX X P w K mg base N Vn L G S k) (F : MkAt P w K mg base x C k2 ps (spI K C n A)) (h3 : At G j x) (hk : k2 + 1 ≤ k) (he : starEach (e :: es) X.env = (false, eval e X.env) :: starEach es X.env) (hpl : (backTo pos (starEach es X.env)).any (·.1) = false)
    (hw : WA X m env (e :: es) fun ds => ds.length = n ∧ A ds fun fs => Q (.ins C fs)) : WE X m env (.Call (.Name x p2) (e :: es) [] pos) Q := by
  obtain ⟨f, fd, M, Fn, hb, hm⟩ := F.ex
  obtain ⟨g1, g2, g3⟩ := dx.g h3
  obtain rfl := dx.prog
  obtain rfl := dx.w_
  obtain rfl := dx.K_
  obtain rfl := dx.mg_
  obtain rfl := dx.base_
  refine ⟨fun σ H0 F H kk g ev t => tec (pe_make M Fn (dx.room.mono hk) g1 hm hb .nil passL pa_can g2 he hpl) ?_⟩
  refine hw.run σ H0 F H _ g ev fun vs ds F1 H1 s1 hvs q => ?_
  intro y dy hy hdy ne
  rw [List.append_nil]
  have hy2 : upd H1 dy (.own y) y = none := by rw [upd_ne ne.symm]; exact hy
  have t1 := s1.good.fresh (o := .own y) hdy
  have t2 := t1.good.fresh (o := .ins C dy []) hy2
  refine ⟨by show vs.length + 1 = n + 1; rw [hvs.length, q.1], y, vs, F1, ds, _, rfl, t2.good.any, s1.good.noF hy, ⟨dy, upd_same⟩, hvs, q.2, fun F' H' dx' gs fs sm g' hF' nw kp hH' hn ha hP => ⟨rfl, ?_⟩⟩
  have back : ∀ a, upd (upd H1 dy (.own y)) y (.ins C dy []) a = none → H1 a = none := fun a z => by
    by_cases ha : a = y
    · subst ha; exact hy
    · rw [upd_ne ha] at z
      by_cases hb : a = dy
      · subst hb; exact hdy
      · rw [upd_ne hb] at z; exact z
  have fwd : ∀ a o, H1 a = some o → upd (upd H1 dy (.own y)) y (.ins C dy []) a = some o := fun a o z => by
    rw [upd_ne (ne_of_none z hy), upd_ne (ne_of_none z hdy)]; exact z
  have kp2 : ∀ a o, H1 a = some o → H' a = some o := fun a o z => kp a o (ne_of_none z hy) (fwd a o z)
  have bagk : ∀ b, m = some b → (F' b.b = none ∧ F' b.l = none) ∧ BagOk X.K H' b := fun b hb => by
    obtain ⟨hF1, hB⟩ := s1.good.bag b hb
    obtain ⟨⟨u, hu⟩, u2, hu2⟩ := hB.some
    refine ⟨⟨?_, ?_⟩, hB.mono ((kp2 b.b u hu).trans hu.symm) ((kp2 b.l u2 hu2).trans hu2.symm)⟩
    · cases e : F' b.b with
      | none => rfl
      | some o => exact absurd (back b.b (nw b.b hF1.1 (by rw [e]; exact fun z => nomatch z))) (by rw [hu]; exact fun z => nomatch z)
    · cases e : F' b.l with
      | none => rfl
      | some o => exact absurd (back b.l (nw b.l hF1.2 (by rw [e]; exact fun z => nomatch z))) (by rw [hu2]; exact fun z => nomatch z)
  have g2' : Good X.K m F' H' := ⟨g'.sub, bagk⟩
  have hm' : ¬ Touch m y := s1.good.notm hy
  refine t _ _ (upd F' y (.ins C dx' gs)) H' (s1.trans ⟨sm.trans (same_upd hF'), g2'.freeze hF' hm' hH', fun a h1 h2 => ?_, fun a o _ z => kp2 a o z⟩) (.ins upd_same hn (ha.mono (same_upd hF'))) hP
  by_cases hay : a = y
  · subst hay; exact hy
  · rw [upd_ne hay] at h2; exact back a (nw a h1 h2)
/-- special methods -/
structure SpAt (P : Program) (w : World) (K : PySem.W.Frag) (mg : Str → Option Value) (base : Heap) (C : Addr) (x : Str) (k : Nat) (ps : List Str) (sp : Sp) : Prop where
  ex : ∃ f fd, FnOk P w K mg base (L2.CX P w) k f fd ps sp ∧ PySem.W.findIn K (.ref C) x = some (some (.ref f)) ∧ PySem.W.isFn K (.ref f) = true ∧ PySem.W.fnIn K f = true ∧ Binds K fd ps []
theorem r2_inO {neg : Bool} {x y : D} (hq : ∃ fs, y = .ins C fs ∧ 2 = n ∧ A [y, x] fun r => asBl r fun c => Q (.bl (if neg then !c else c))) : R2D K m (rInO C (spD K none n A) neg) x y Q := by
  obtain ⟨fs, rfl, hn, hA⟩ := hq
  refine ⟨fun F H v w kk g hv hw t => ?_⟩
  have hw0 := hw
  cases hw with
  | ins h1 h2 h3 =>
    rename_i ad dd gs
    refine ⟨ad, dd, gs, rfl, g.sub _ _ h1, hn, F, _, _, g.any, .cons hw0 (.cons hv .nil), hA, fun v d F' H' s hv hP => ?_⟩
    obtain ⟨c, rfl, rfl, hP⟩ := hv.asBl hP
    exact ⟨c, rfl, (t.after (s.any g)).at (s.any g).good (.bl _) hP⟩
theorem dl_inO (dx : DX X P w K mg base N Vn L G S k) (F : SpAt P w K mg base C "__contains__" k2 ps (spD K none n A)) (hk : k2 ≤ k) (hm : behindInMarks .In b = false)
    (hw : WE X m env a fun x => WE X m env b fun y => ∃ fs, y = .ins C fs ∧ 2 = n ∧ A [y, x] fun r => asBl r fun c => Q (.bl c)) : WE X m env (.Compare a [.In] [b] pos) Q := by
  obtain ⟨f, fd, Fn, hf, hi, _, hb⟩ := F.ex
  obtain rfl := dx.prog
  obtain rfl := dx.w_
  obtain rfl := dx.K_
  obtain rfl := dx.mg_
  obtain rfl := dx.base_
  exact we_tOp (pe_cmpR (op_inO hf hi Fn (dx.room.mono hk) hb) pe_can pe_can hm) rfl (hw.mono fun _ h => h.mono fun _ q => r2_inO (neg := false) q)
theorem dlt_notInO {Q : Bool → Prop} (dx : DX X P w K mg base N Vn L G S k) (F : SpAt P w K mg base C "__contains__" k2 ps (spD K none n A)) (hk : k2 ≤ k) (hm : behindInMarks .NotIn b = false)
    (hw : WE X m env a fun x => WE X m env b fun y => ∃ fs, y = .ins C fs ∧ 2 = n ∧ A [y, x] fun r => asBl r fun c => Q (!c)) : WT X m env (.Compare a [.NotIn] [b] pos) Q := by
  obtain ⟨f, fd, Fn, hf, hi, _, hb⟩ := F.ex
  obtain rfl := dx.prog
  obtain rfl := dx.w_
  obtain rfl := dx.K_
  obtain rfl := dx.mg_
  obtain rfl := dx.base_
  exact wt_cmp (op_notInO hf hi Fn (dx.room.mono hk) hb) hm (hw.mono fun _ h => h.mono fun _ q => r2_inO (neg := true) q)
theorem dlt_inO {Q : Bool → Prop} (dx : DX X P w K mg base N Vn L G S k) (F : SpAt P w K mg base C "__contains__" k2 ps (spD K none n A)) (hk : k2 ≤ k) (hm : behindInMarks .In b = false)
    (hw : WE X m env a fun x => WE X m env b fun y => ∃ fs, y = .ins C fs ∧ 2 = n ∧ A [y, x] fun r => asBl r fun c => Q c) : WT X m env (.Compare a [.In] [b] pos) Q := by
  obtain ⟨f, fd, Fn, hf, hi, _, hb⟩ := F.ex
  obtain rfl := dx.prog
  obtain rfl := dx.w_
  obtain rfl := dx.K_
  obtain rfl := dx.mg_
  obtain rfl := dx.base_
  exact wt_cmp (op_inO hf hi Fn (dx.room.mono hk) hb) hm (hw.mono fun _ h => h.mono fun _ q => r2_inO (neg := false) q)
/-- len(o) -/
theorem dl_lenO (dx : DX X P w K mg base N Vn L G S k) (bn : NoMg mg B) (F : SpAt P w K mg base C "__len__" k2 ps (spD K none n A)) (hk : k2 + 1 ≤ k) (h3 : At G j "len") (h4 : At B j2 "len") (hs : starEach [a] X.env = [(false, eval a X.env)])
    (hw : WE X m env a fun y => ∃ fs, y = .ins C fs ∧ 1 = n ∧ A [y] fun r => asInt r fun c => (0 ≤ c ∧ c < 2 ^ 63) ∧ Q (.int c)) : WE X m env (.Call (.Name "len" p2) [a] [] pos) Q := by
  obtain ⟨f, fd, Fn, hf, hi, _, hb⟩ := F.ex
  obtain rfl := dx.prog
  obtain rfl := dx.w_
  obtain rfl := dx.K_
  obtain rfl := dx.mg_
  obtain rfl := dx.base_
  refine dl_cb1 (call_lenO hf hi Fn (dx.room.mono hk) hb) PySem.boot_len dx bn h3 h4 hs (hw.mono fun y hq => ⟨fun F H vs kk g hvs t => ?_⟩)
  obtain ⟨fs, rfl, hn, hA⟩ := hq
  cases hvs with
  | cons hv hr =>
    cases hr
    have hv0 := hv
    cases hv with
    | ins h1 h2 h3 =>
      rename_i ad dd gs
      refine ⟨ad, dd, gs, rfl, g.sub _ _ h1, hn, F, _, _, g.any, .cons hv0 .nil, hA, fun v d F' H' s hv hP => ?_⟩
      obtain ⟨c, rfl, rfl, hc, hP⟩ := hv.asInt hP
      exact ⟨c, rfl, hc.1, hc.2, (t.after (s.any g)).at (s.any g).good (.int _) hP⟩
/-- o(e, ..) -/
theorem dl_callO (dx : DX X P w K mg base N Vn L G S k) (F : SpAt P w K mg base C "__call__" k2 ps (spD K none n A)) (hk : k2 ≤ k)
    (ht : eval (.Call o (e :: es) [] pos) X.env = (do callWith pos (← eval o X.env) [] (backTo pos (starEach (e :: es) X.env)) (backToKw pos (keywordEach [] X.env))))
    (he : starEach (e :: es) X.env = (false, eval e X.env) :: starEach es X.env) (hpl : (backTo pos (starEach es X.env)).any (·.1) = false)
    (hw : WE X m env o fun d => ∃ fs, d = .ins C fs ∧ WA X m env (e :: es) fun ds => ds.length + 1 = n ∧ A (d :: ds) Q) : WE X m env (.Call o (e :: es) [] pos) Q := by
  obtain ⟨f, fd, Fn, hf, hi, hfi, hb⟩ := F.ex
  obtain rfl := dx.prog
  obtain rfl := dx.w_
  obtain rfl := dx.K_
  obtain rfl := dx.mg_
  obtain rfl := dx.base_
  refine ⟨fun σ H0 F H kk g ev t => tec (StX.pe_callO pe_can ⟨hf, hi, hfi⟩ (Fn.raw hb .nil) (dx.room.mono hk) passL pa_can ht he hpl) ?_⟩
  refine hw.run σ H0 F H _ g ev fun v d F1 H1 s1 hv q => ?_
  obtain ⟨fs, rfl, hq⟩ := q
  have hv0 := hv
  cases hv with
  | ins h1 h2 h3 =>
    rename_i ad dd gs
    refine ⟨ad, rfl, ?_⟩
    refine hq.run σ H0 F1 H1 _ s1.good (ev.step s1) fun vs ds F2 H2 s2 hvs q => ?_
    refine ⟨.inr ⟨dd, gs, s2.good.sub _ _ (s2.fs _ _ h1)⟩, ?_⟩
    show spD X.K none n A ((V.ref ad :: vs) ++ []) H2 kk E0
    rw [List.append_nil]
    exact ⟨by show vs.length + 1 = n; rw [hvs.length]; exact q.1, F2, _, Q, s2.good.any, .cons (hv0.mono s2.fs) hvs, q.2, fun v d F3 H3 s3 hv hP => ((t.after s1).after s2) v d F3 H3 (s3.any s2.good) hv hP⟩
/-- o.f, a property -/
structure PrAt (P : Program) (w : World) (K : PySem.W.Frag) (mg : Str → Option Value) (base : Heap) (C : Addr) (x : Str) (k : Nat) (ps : List Str) (sp : Sp) : Prop where
  ex : ∃ p f fd, FnOk P w K mg base (L2.CX P w) k f fd ps sp ∧ PropOf K C x p f ∧ Binds K fd ps []
theorem dl_prop (dx : DX X P w K mg base N Vn L G S k) (c : Cls K C) (F : PrAt P w K mg base C x k2 ps (spD K none n A)) (hk : k2 + 1 ≤ k) (hab : attributeBase o x X.env (eval o X.env) = eval o X.env)
    (hw : WE X m env o fun d => ∃ fs, d = .ins C fs ∧ 1 = n ∧ A [d] Q) : WE X m env (.Attribute o x pos) Q := by
  obtain ⟨p, f, fd, Fn, hp, hb⟩ := F.ex
  obtain rfl := dx.prog
  obtain rfl := dx.w_
  obtain rfl := dx.K_
  obtain rfl := dx.mg_
  obtain rfl := dx.base_
  refine ⟨fun σ H0 F H kk g ev t => tec (pe_prop pe_can c hp Fn (dx.room.mono hk) hb .nil (passL (X := X.nox)) hab) ?_⟩
  refine hw.run σ H0 F H _ g ev fun v d F1 H1 s1 hv q => ?_
  obtain ⟨fs, rfl, hn, hq⟩ := q
  have hv0 := hv
  cases hv with
  | ins h1 h2 h3 =>
    rename_i ad dd gs
    exact ⟨ad, dd, gs, rfl, s1.good.sub _ _ h1, hn, F1, _, Q, s1.good.any, .cons hv0 .nil, hq, fun v d F3 H3 s3 hv hP => (t.after s1) v d F3 H3 (s3.any s1.good) hv hP⟩
end
end DL
set_option Elab.async false
set_option linter.all false
set_option maxRecDepth 100000
set_option autoImplicit false
set_option maxHeartbeats 2000000
/-! DLX, part 1: several except clauses that name the exception; errors without parts; a call, a making, whose errors are wished for at the slots. -/
namespace DL
open PySem L2 PySem.Spec PyProof.Rows
/-- one clause's end: its name is gone behind the suite -/
def aEnds (i : Nat) (D : Ends) : Ends := { nx := fun σ H => D.nx (σ.set i none) H, rt := D.rt, bk := fun σ H => D.bk (σ.set i none) H, ct := fun σ H => D.ct (σ.set i none) H }
abbrev Cls3 := Value × Nat × (Addr → Value → Option Addr → TS)
def wNamed (K : PySem.W.Frag) (Wout : WX) (D : Ends) : List Cls3 → WX
  | [] => Wout
  | q :: r => fun cls d σ H => ∃ b, PySem.W.exmOne K cls q.1 = some b ∧ (b = true → ∀ a, H a = none → q.2.2 a cls d (aEnds q.2.1 D) (σ.set q.2.1 (some (.ref a))) H) ∧ (b = false → wNamed K Wout D r cls d σ H)
inductive NamedOk (X : Cx) : List ExceptHandler → List Cls3 → Prop
  | nil : NamedOk X [] []
  | cons {x n : Str} {c : Value} {i : Nat} {ts : Addr → Value → Option Addr → TS} {st : Stmt} {sts : List Stmt} {np hp : Pos} {hds : List ExceptHandler} {l : List Cls3} (hc : Names X x c) (hi : X.N[i]? = some n) (hn : X.env.kindOf n = some .local)
      (hsu : ∀ (a : Addr) (oe : Obj) (cls : Value) (d : Option Addr) (pn : List (Addr × Obj)), Zc cls d oe → (∃ vs, oe.data = .fields vs) → PSs (X.suite a ((a, oe) :: pn)) (st :: sts) (ts a cls d)) (r : NamedOk X hds l) :
      NamedOk X (.ExceptHandler (some (.Name x np)) (some n) (st :: sts) hp :: hds) ((c, i, ts) :: l)
theorem ps_try_named {X : Cx} {body : List Stmt} {h0 : ExceptHandler} {hds : List ExceptHandler} {l : List Cls3} {pos : Pos} {tb : WX → TS} {Wout : WX} (hs : X.stack = X.env :: X.outer) (hf : X.env.frame = some X.env.locals) (hN : X.N.Nodup) (tk : Takes X Wout)
    (hb : ∀ (W : WX) (pn : List (Addr × Obj)) (xe : Value → Shared → Prop), Takes (X.tr pn xe) W → PassesOwn (model X.prog X.w) X.A X.env xe → PSs (X.tr pn xe) body (tb W))
    (hh : NamedOk X (h0 :: hds) l) : PS X (.Try body (h0 :: hds) [] [] pos) (fun D σ H => tb (wNamed X.K Wout D l) D σ H) := by
  refine ⟨fun pins s σ H D I h => ?_⟩
  have okX := I.ok
  have frm : X.A.frames = some (X.env :: X.outer) := by rw [okX.frames, hs]
  refine wpAny_Try_except ?_
  -- the wish of the body: the clauses, one after another
  have tkB : Takes (X.tr (X.pn ++ pins) fun e s1 => wpAny (model X.prog X.w) X.A (noteFrame e X.env) (fun _ s2 => wpAny (model X.prog X.w) X.A (setFlight e none) (fun _ s3 => wpAny (model X.prog X.w) X.A (handleBy e X.env (h0 :: hds)) (SP X pins D) X.xe s3) X.xe s2) X.xe s1) (wNamed X.K Wout D l) := by
    intro ue se xx
    obtain ⟨ea, gr, si, pinz, sg, Hg, cls, dd, rfl, Jt, nbr, upp, sky, noa, eqo, bar, wsh⟩ := xx
    have J : Inv X pins sg Hg si := Jt.ofTry okX
    have sk : Sky gr (X.env :: X.outer) ea (Zc cls dd) X.env.locals se.heap := by rw [← hs]; exact sky
    show wpAny _ X.A (noteFrame (.ref ea) X.env) _ _ _
    refine Sky.land Zc.steady frm hf sk fun hA flA upA => ?_
    have JA : Inv X pins sg Hg { se with heap := hA } := J.landed nbr flA.1 (upp.trans upA) eqo bar
    obtain ⟨oA, vA, gA, zA, fA⟩ := flA.there
    -- the exception's own address is no frame's
    have away : ∀ {hq : Heap} {oq : Obj} {vq : Array Value}, hq.FunFrames gr (X.env :: X.outer) → hq.get? ea = some oq → oq.data = .fields vq → ea ∉ frs (X.env :: X.outer) := fun {hq oq vq} ffs eq dq mq => by
      obtain ⟨_, o2, e2, n2⟩ := ffs.mem mq
      rw [eq] at e2
      cases e2
      exact n2 _ dq
    have notF := away flA.2.2.1 gA fA
    have noL : ea ≠ X.env.locals := fun z => notF (List.mem_filterMap.mpr ⟨X.env, List.mem_cons_self, by rw [hf, z]⟩)
    have noO : ea ∉ X.fs := fun mq => by
      obtain ⟨ev, hev, q⟩ := List.mem_filterMap.mp mq
      exact notF (List.mem_filterMap.mpr ⟨ev, List.mem_cons_of_mem _ hev, q⟩)
    have SA := JA.suite gA fA noa noL noO
    have walk : ∀ {hq : List ExceptHandler} {lq : List Cls3}, NamedOk X hq lq → wNamed X.K Wout D lq cls dd sg Hg → wpAny (model X.prog X.w) X.A (handleBy (.ref ea) X.env hq) (SP X pins D) X.xe { se with heap := hA } := by
      intro hq lq kq
      induction kq with
      | nil =>
        intro wq
        refine wpAny_handleBy_nil ?_
        obtain ⟨_, _, _, oq, vq, tq, otq, tsq, gq, zq, dq, fq, rq⟩ := id flA
        unfold PySem.passOn
        refine wpAny_bind (wpAny_field gq dq fq ?_)
        rw [if_neg (show ¬ (Value.ref tq == Value.none) = true by simp)]
        have out : wpAny (model X.prog X.w) X.A (setFlight (.ref ea) X.env.frame) (fun _ s4 => wpAny (model X.prog X.w) X.A (throw (.ref ea) : Sem Flow) (SP X pins D) X.xe s4) X.xe { se with heap := hA } := by
          rw [hf]
          refine HandSPX.setFlight_upZ flA fun hB bB uB => wpAny_throw (tk _ _ ?_)
          exact ⟨ea, gr, si, pins, sg, Hg, cls, dd, rfl, J, nbr, (upp.trans upA).trans uB, .inr (.inr (by rw [hs]; exact bB)), noa, eqo, bar, wq⟩
        first | exact wpAny_bind (wpAny_pure (wpAny_bind out)) | exact wpAny_bind out
      | @cons x n c i ts st sts np hp hds2 l2 hc hi hn hsu _ ih =>
        intro wq
        obtain ⟨b, ex1, yes, no⟩ := wq
        refine wpAny_handleBy_cons (codeAny_handlers_test ?_) (by intro q; cases q)
        have LT : PySem.W.Looks (model X.prog X.w) hA (typeOf (.ref ea)) cls := fun _ _ _ _ kz q => wpAny_typeOf_ref (kz _ _ gA) (by rw [zA.1]; exact q)
        have LM := PySem.W.exm_one (M := model X.prog X.w) JA.kIn LT ex1
        have asked : ∀ {Q : Value → Shared → Prop} {E : Value → Shared → Prop}, Q c { se with heap := hA } → wpAny (model X.prog X.w) (X.A.mark (some (.ref ea))) (eval (.Name x np) X.env) Q E { se with heap := hA } := fun {Q E} q => by
          obtain ⟨hg, hdb, hm | ⟨hm, hv, hnm⟩⟩ := hc
          · exact ld_glob (X := X.suite ea ((ea, oA) :: (X.pn ++ pins))) SA hg hm q hdb
          · exact ld_blt (X := X.suite ea ((ea, oA) :: (X.pn ++ pins))) SA hg hm hv q hnm hdb
        refine asked (LM.here ?_)
        cases b with
        | false => exact ih (no rfl)
        | true =>
          refine codeAny_handlers_suite_as ?_
          refine HandSPX.lands_againZ flA fun hB flB uB => ?_
          have JB : Inv X pins sg Hg { se with heap := hB } := J.landed nbr flB.1 ((upp.trans upA).trans uB) eqo bar
          obtain ⟨oB, vB, gB, zB, fB⟩ := flB.there
          have SB := JB.suite gB fB noa noL noO
          have loc : L2.Loc X.env.scope n := .inl hn
          refine store_ok (X := X.suite ea ((ea, oB) :: (X.pn ++ pins))) (v := .ref ea) SB hN hi loc rfl (fun s5 S5 => ?_) (.inr hn)
          refine wpAny_mono ((hsu ea oB cls dd (X.pn ++ pins) zB ⟨_, fB⟩).run [] s5 _ Hg _ S5 (yes rfl ea noa)) (fun fl s6 sp6 => ?_) (fun _ _ z => False.elim z)
          have unb : ∀ {s6' : L2.St} {H6 : Hp} {Q : Shared → Prop}, Inv (X.suite ea ((ea, oB) :: (X.pn ++ pins))) [] s6' H6 s6 → (∀ s7, Inv X pins (s6'.set i none) H6 s7 → Q s7) →
              wpAny (model X.prog X.w) X.A (do bindName X.env n .none; unbindBehindTheSuite X.env n hp) (fun _ s7 => Q s7) X.xe s6 := fun {_ _ _} S6 k6 => gone_ok (S6.unsuite okX) hN hi hn k6
          cases fl with
          | next => obtain ⟨_, _, S6, q6⟩ := sp6; exact unb S6 fun s7 J7 => ⟨_, _, J7, q6⟩
          | brk => obtain ⟨_, _, S6, q6⟩ := sp6; exact unb S6 fun s7 J7 => ⟨_, _, J7, q6⟩
          | cont => obtain ⟨_, _, S6, q6⟩ := sp6; exact unb S6 fun s7 J7 => ⟨_, _, J7, q6⟩
          | ret u => obtain ⟨_, _, _, S6, r6, q6⟩ := sp6; exact unb S6 fun s7 J7 => ⟨_, _, _, J7, r6, q6⟩
    exact walk hh wsh
  refine wpAny_mono ((hb _ _ _ tkB PassesOwn.looking).run [] s σ H D (I.toTry _) h) (fun fl s1 sp1 => ?_) (fun e s1 he => he)
  cases fl with
  | next => obtain ⟨s2, H2, J2, q⟩ := sp1; exact wpAny_execs_nil ⟨s2, H2, J2.ofTry okX, q⟩
  | brk => obtain ⟨s2, H2, J2, q⟩ := sp1; exact ⟨s2, H2, J2.ofTry okX, q⟩
  | cont => obtain ⟨s2, H2, J2, q⟩ := sp1; exact ⟨s2, H2, J2.ofTry okX, q⟩
  | ret u => obtain ⟨v2, s2, H2, J2, r2, q⟩ := sp1; exact ⟨v2, s2, H2, J2.ofTry okX, r2, q⟩

/-- C(): an own class over another one without an __init__ of its own -/
theorem pmk_bare {X : Cx} {C : Addr} {bmB : List Value} {B newId initId : String} {x : Str} {p pos : Pos} (F : ExcBaseFacts B newId initId bmB) (q : PySem.W.excIn X.K C bmB newId = true) (gC : X.mg x = some (.ref C)) (kC : PySem.W.keepIn X.K (.ref C) = true)
    (r : Raises X (.ref C)) (hg : Gl X x) (hdb : (x == ("__debug__" : Str)) = false) : PMk X (.Call (.Name x p) [] [] pos) (fun _ H Q => Q (.ref C) none H) := by
  intro pins s σ H Q I h
  refine wpAny_Call_Name_kw (ld_glob I hg gC ?_ hdb)
  refine PySem.W.callWith_K0 I.kIn kC ?_
  show wpAny _ _ (call (.ref C) []) _ _ _
  obtain ⟨bm, ns, nm, qn, bs, hdct, sn, sub, ab, col, dd, k0, k1, k2, k3, k5, mN, hC, hN, hni, T⟩ := exc_obj I.kIn q
  exact wpAny_call_exc_subT F T hC hN hni (fun hx ex hm => mk_of I hm r h (I.hok.gone hm.new)) (Nat.zero_le _)
/-- a making whose errors are wished for at the slots -/
theorem pe_makeS {X : Cx} {k : Nat} {f C : Addr} {fd : FuncData} {ps : List Str} {sp : Sp} {E : L2.St → XK} {x : Str} {p pos : Pos} {e : Expr} {es : List Expr} {t : TA} (M : Mk X.K C f) (F : FnOk X.prog X.w X.K X.mg X.base (L2.CX X.prog X.w) k f fd ps sp) (hr : Room (k + 1) X.A) (hg : Gl X x) (hm : X.mg x = some (.ref C))
    (hb : Binds X.K fd ps []) (hx : ∀ σ, PassesAt (L2.CX X.prog X.w) X σ (E σ)) (ha : PA X (e :: es) t) (hdb : (x == ("__debug__" : Str)) = false) (he : starEach (e :: es) X.env = (false, eval e X.env) :: starEach es X.env) (hpl : (backTo pos (starEach es X.env)).any (·.1) = false) :
    PE X (.Call (.Name x p) (e :: es) [] pos) (fun σ H Q => t σ H fun vs H1 => ∀ y dy, H1 y = none → H1 dy = none → dy ≠ y → sp (.ref y :: vs) (upd (upd H1 dy (.own y)) y (.ins C dy [])) (fun v H2 => v = .non ∧ Q (.ref y) H2) (E σ)) := by
  refine ⟨fun pins s σ H Q I h => ?_⟩
  refine wpAny_Call_Name_kw (ld_glob I hg hm ?_ hdb)
  refine PySem.W.callWith_K (h₀ := X.base) I.ok.mod.kin M.kp (thn (ha.run pos pins s σ H _ I h) fun us s1 ⟨vs, H1, I1, r, q⟩ => ⟨I1.kIn, ?_⟩) he hpl
  have qq := q (s1.heap.objs.size + 1) s1.heap.objs.size (I1.hok.fresh (Nat.le_succ _)) (I1.hok.fresh (Nat.le_refl _)) (Nat.ne_of_lt (Nat.lt_succ_self _))
  have J := Inv.made (C := C) I1
  have r2 : Vals (V.ref (s1.heap.objs.size + 1) :: vs) (Value.ref (s1.heap.objs.size + 1) :: us) := .cons rfl r
  have len : (Value.ref (s1.heap.objs.size + 1) :: us ++ []).length = ps.length := by
    have e2 := r2.length
    rw [F.len _ _ _ _ qq] at e2
    rw [List.append_nil]
    exact e2.symm
  have bnd := hb _ (Value.ref (s1.heap.objs.size + 1) :: us) J.kIn len
  rw [List.append_nil] at bnd
  have ran := F.run _ X.stack _ _ ⟨Value.ref (s1.heap.objs.size + 1) :: us, []⟩ (Value.ref (s1.heap.objs.size + 1) :: us) _ _ (E σ) (hr.make C us []) (J.env0.make C us []) bnd r2 qq
  refine wpAny_call (make_map (f := f) I1.kIn M.makes M.init (beq_iff_eq.mp M.fn) (codeAny_mono ran fun res s' hq => ?_))
  cases res with
  | error er => exact hx σ pins _ _ er s' J hq
  | ok fl =>
    cases fl with
    | ret u =>
      obtain ⟨v, H', J3, rv, ev, q3⟩ := J.after hq
      subst ev
      exact ⟨rv, V.ref (s1.heap.objs.size + 1), H', J3, rfl, q3⟩
    | next => exact False.elim hq
    | brk => exact False.elim hq
    | cont => exact False.elim hq
end DL
set_option Elab.async false
set_option linter.all false
set_option maxRecDepth 100000
set_option autoImplicit false
/-! DLX, part 2: defs that may raise, over data; try with clauses that name the exception. -/
namespace DL
open PySem L2
/-- a promise that tells of errors too: PX of the class and the parts -/
def spX (K : PySem.W.Frag) (n : Nat) (A : List D → (D → Prop) → (Addr → List (Str × D) → Prop) → Prop) : Sp := fun vs H Q E => vs.length = n ∧ ∃ F ds P PX, Good K none F H ∧ IsAll K F vs ds ∧ A ds P PX ∧ Then K none F H P Q ∧
  ∀ C d fs F' H', Step K none F H F' H' → ExIs K H F' H' d fs → PX C fs → E (.ref C) d H'
/-- an __init__ that may raise -/
def spIX (K : PySem.W.Frag) (C : Addr) (n : Nat) (A : List D → (List (Str × D) → Prop) → (Addr → List (Str × D) → Prop) → Prop) : Sp := fun vs H Q E => vs.length = n + 1 ∧ ∃ x ws F ds P PX, vs = .ref x :: ws ∧ Good K none F H ∧ F x = none ∧ (∃ dx, H x = some (.ins C dx [])) ∧ IsAll K F ws ds ∧ A ds P PX ∧
  (∀ F' H' dx gs fs, Same F F' → Good K none F' H' → F' x = none → (∀ a, F a = none → F' a ≠ none → H a = none) → (∀ a o, a ≠ x → H a = some o → H' a = some o) → H' x = some (.ins C dx gs) → gs.map (·.1) = fs.map (·.1) → IsAll K F' (gs.map (·.2)) (fs.map (·.2)) → P fs → Q .non H') ∧
  ∀ C' d fs F' H', Same F F' → Good K none F' H' → F' x = none → (∀ a, F a = none → F' a ≠ none → H a = none) → (∀ a o, a ≠ x → H a = some o → H' a = some o) → ExIs K H F' H' d fs → PX C' fs → E (.ref C') d H'
section
variable {P : Program} {w : World} {K : PySem.W.Frag} {mg : Str → Option Value} {base : Heap}
theorem Fun.okX2 {x qual : Str} {st : Stmt} {f : Addr} {fd : FuncData} {N Vn L G ps : List Str} {k : Nat} {A : List D → (D → Prop) → (Addr → List (Str × D) → Prop) → Prop} (Fn : Fun K x qual st f fd) (S : FnScope N ps (defScope st))
    (hv : ∀ x ∈ Vn, VisOk (defScope st) x = true) (hl : ∀ x ∈ L, LocOk (defScope st) x = true) (hg : ∀ x ∈ G, GlOk (defScope st) x = true)
    (hb : ∀ (X : Cx) (ds : List D) (Q : D → Prop) (QX : Addr → List (Str × D) → Prop), DX X P w K mg base N Vn L G (defScope st) k → ds.length = ps.length → A ds Q QX →
      WSs X none (envOf N ds) (defBody st) { nx := fun _ => Q .non, rt := fun d _ => Q d, ex := fun C fs _ => QX C fs }) :
    FnOk P w K mg base (L2.CX P w) (k + 1) f fd ps (spX K ps.length A) := by
  refine Fn.okX S (fun vs H Q E h => h.1) fun cdv Ar outer s H vs Q E hr h => ⟨_, pss_can, ?_⟩
  obtain ⟨hl', F, ds, Q', QX, g, ha, hA, t, tx⟩ := h
  refine (hb _ ds Q' QX (dx_of (x := x) S hv hl hg hr) (by rw [← ha.length]; exact hl') hA).run _ F H F F H _ (fun cls d _ H => E cls d H) ⟨.refl g, envs_start ha, Same.refl _⟩ ?_
  exact ⟨fun σ env F' H' s' q => t .non .non F' H' s'.step .non q, fun v d σ env F' H' s' hv q => t v d F' H' s'.step hv q, fun _ _ _ _ _ z => z.elim, fun _ _ _ _ _ z => z.elim, takes_of rfl rfl rfl rfl, fun σ env F' H' C d fs s' hx q => tx C d fs F' H' s'.step hx q⟩
end

/-! ### raise, and calls that may raise -/
section
variable {X : Cx} {P : Program} {w : World} {K : PySem.W.Frag} {mg : Str → Option Value} {base : Heap} {N Vn L G B : List Str} {S : Scope} {k k2 n : Nat} {x y : Str} {i j j2 : Nat}
variable {m : Option Mem} {env : Ev} {a b c e iter elt o tg : Expr} {es : List Expr} {Q : D → Prop} {pos p2 p3 p4 pr : Pos} {R : DEnds} {rest body els : List Stmt} {ps : List Str} {C : Addr}
/-- an own error class without parts, at its name -/
structure ErrAt (K : PySem.W.Frag) (mg : Str → Option Value) (x : Str) (C : Addr) : Prop where
  ex : ∃ bmB B newId initId, ExcBaseFacts B newId initId bmB ∧ PySem.W.excIn K C bmB newId = true
  at_ : mg x = some (.ref C)
  kp : PySem.W.keepIn K (.ref C) = true
  sb : PySem.W.subIn K (.ref C) (.type "BaseException") = some true
  ty : PySem.W.typeIn K (.ref C) = some (.type "type")
theorem dl_raise0 (dx : DX X P w K mg base N Vn L G S k) (F : ErrAt K mg x C) (h3 : At G j x) (h : R.ex C [] env) : WS X m env (.Raise (some (.Call (.Name x p2) [] [] p3)) none pos) R := by
  obtain ⟨bmB, B', nI, iI, F1, F2⟩ := F.ex
  obtain ⟨g1, g2, g3⟩ := dx.g h3
  obtain rfl := dx.K_
  obtain rfl := dx.mg_
  refine ⟨fun σ F0 H0 Fl F' H De W s o => tsc (ps_raise dx.calm o.tk (pmk_bare F1 F2 F.at_ F.kp (raises_own F.sb F.ty) g1 g2)) ?_⟩
  exact o.ex σ env F' H C none [] s rfl h
theorem call_X {A : List D → (D → Prop) → (Addr → List (Str × D) → Prop) → Prop} {Pd : D → Prop} {σ : L2.St} {F0 H0 Fl F H F1 H1 : Hp} {De : Ends} {W : WX} {vs : List V} {ds : List D} {kk : VK} (s : Sta X.K m F0 H0 Fl F H σ env) (o : EndsOk X m F0 H0 Fl R De W) (s1 : Step X.K m F H F1 H1) (hvs : IsAll X.K F1 vs ds)
    (hq : ds.length = n ∧ A ds Pd fun C fs => R.ex C fs env) (t : Then X.K m F1 H1 Pd kk) : spX X.K n A vs H1 kk (L2.WE W σ) := by
  refine ⟨by rw [hvs.length]; exact hq.1, F1, ds, Pd, _, s1.good.any, hvs, hq.2, fun v d F2 H2 s2 hv hP => t v d F2 H2 (s2.any s1.good) hv hP, fun C d fs F2 H2 s2 hx hP => ?_⟩
  exact o.ex σ env F2 H2 C d fs ((s.after s1).after (s2.any s1.good)) (hx.back (s.step.trans s1)) hP
theorem dl_exprX {A : List D → (D → Prop) → (Addr → List (Str × D) → Prop) → Prop} (dx : DX X P w K mg base N Vn L G S k) (F : FnAt P w K mg base x k2 ps (spX K n A)) (h3 : At G j x) (hk : k2 ≤ k) (he : starEach (e :: es) X.env = (false, eval e X.env) :: starEach es X.env) (hpl : (backTo p3 (starEach es X.env)).any (·.1) = false)
    (hs : swapsWith (.Call (.Name x p2) (e :: es) [] p3) none pos.line X.env = pure false) (hw : WA X m env (e :: es) fun ds => ds.length = n ∧ A ds (fun _ => R.nx env) fun C fs => R.ex C fs env) : WS X m env (.Expr (.Call (.Name x p2) (e :: es) [] p3) pos) R := by
  obtain ⟨f, fd, Fn, hm, hkp, hb⟩ := F.ex
  obtain ⟨g1, g2, g3⟩ := dx.g h3
  obtain rfl := dx.prog
  obtain rfl := dx.w_
  obtain rfl := dx.K_
  obtain rfl := dx.mg_
  obtain rfl := dx.base_
  refine ⟨fun σ F0 H0 Fl F' H De W s o => tsc (ps_expr (pe_callS Fn (dx.room.mono hk) g1 hm hkp hb (fun σ => passAt o.tk σ) pa_can g2 he hpl) hs) ?_⟩
  refine hw.run σ H0 F' H _ s.good s.env fun vs ds F1 H1 s1 hvs q => ?_
  exact call_X (R := R) s o s1 hvs q fun v d F2 H2 s2 hv hP => o.nx σ env F2 H2 ((s.after s1).after s2) hP
theorem dl_retX {A : List D → (D → Prop) → (Addr → List (Str × D) → Prop) → Prop} (dx : DX X P w K mg base N Vn L G S k) (F : FnAt P w K mg base x k2 ps (spX K n A)) (h3 : At G j x) (hk : k2 ≤ k) (he : starEach (e :: es) X.env = (false, eval e X.env) :: starEach es X.env) (hpl : (backTo p3 (starEach es X.env)).any (·.1) = false)
    (hw : WA X m env (e :: es) fun ds => ds.length = n ∧ A ds (fun d => R.rt d env) fun C fs => R.ex C fs env) : WS X m env (.Return (some (.Call (.Name x p2) (e :: es) [] p3)) pos) R := by
  obtain ⟨f, fd, Fn, hm, hkp, hb⟩ := F.ex
  obtain ⟨g1, g2, g3⟩ := dx.g h3
  obtain rfl := dx.prog
  obtain rfl := dx.w_
  obtain rfl := dx.K_
  obtain rfl := dx.mg_
  obtain rfl := dx.base_
  refine ⟨fun σ F0 H0 Fl F' H De W s o => tsc (ps_ret (pe_callS Fn (dx.room.mono hk) g1 hm hkp hb (fun σ => passAt o.tk σ) pa_can g2 he hpl)) ?_⟩
  refine hw.run σ H0 F' H _ s.good s.env fun vs ds F1 H1 s1 hvs q => ?_
  exact call_X (R := R) s o s1 hvs q fun v d F2 H2 s2 hv hP => o.rt v d σ env F2 H2 ((s.after s1).after s2) hv hP
theorem dl_setX {A : List D → (D → Prop) → (Addr → List (Str × D) → Prop) → Prop} (dx : DX X P w K mg base N Vn L G S k) (F : FnAt P w K mg base x k2 ps (spX K n A)) (h3 : At G j x) (hk : k2 ≤ k) (he : starEach (e :: es) X.env = (false, eval e X.env) :: starEach es X.env) (hpl : (backTo p3 (starEach es X.env)).any (·.1) = false)
    (h1 : At N i y) (h2 : At L j2 y) (hs : swapsWith (.Call (.Name x p2) (e :: es) [] p3) (some (.Name y p4)) pos.line X.env = pure false) (hw : WA X m env (e :: es) fun ds => ds.length = n ∧ A ds (fun d => R.nx (env.set i (some (.frz d)))) fun C fs => R.ex C fs env) :
    WS X m env (.Assign [.Name y p4] (.Call (.Name x p2) (e :: es) [] p3) pos) R := by
  obtain ⟨f, fd, Fn, hm, hkp, hb⟩ := F.ex
  obtain ⟨g1, g2, g3⟩ := dx.g h3
  obtain ⟨l1, l2⟩ := dx.l h2
  have hi := dx.n h1
  obtain rfl := dx.prog
  obtain rfl := dx.w_
  obtain rfl := dx.K_
  obtain rfl := dx.mg_
  obtain rfl := dx.base_
  refine ⟨fun σ F0 H0 Fl F' H De W s o => tsc (ps_set dx.ndX hi l1 (pe_callS Fn (dx.room.mono hk) g1 hm hkp hb (fun σ => passAt o.tk σ) pa_can g2 he hpl) hs l2) ?_⟩
  refine hw.run σ H0 F' H _ s.good s.env fun vs ds F1 H1 s1 hvs q => ?_
  exact call_X (R := R) s o s1 hvs q fun v d F2 H2 s2 hv hP => o.nx _ _ F2 H2 ⟨(s.step.trans s1).trans s2, ((s.env.step s1).step s2).frz hv, (s.fl.trans s1.fs).trans s2.fs⟩ hP
/-- the making of an instance, behind it: the instance stays from now on -/
theorem make_X {A : List D → (List (Str × D) → Prop) → (Addr → List (Str × D) → Prop) → Prop} {Pd : D → Prop} {σ : L2.St} {F0 H0 Fl F H F1 H1 : Hp} {De : Ends} {W : WX} {vs : List V} {ds : List D} {kk : VK} (s : Sta X.K m F0 H0 Fl F H σ env) (o : EndsOk X m F0 H0 Fl R De W) (s1 : Step X.K m F H F1 H1) (hvs : IsAll X.K F1 vs ds)
    (hq : ds.length = n ∧ A ds (fun fs => Pd (.ins C fs)) fun C fs => R.ex C fs env) (t : Then X.K m F1 H1 Pd kk) {y dy : Addr} (hy : H1 y = none) (hdy : H1 dy = none) (ne : dy ≠ y) :
    spIX X.K C n A (.ref y :: vs) (upd (upd H1 dy (.own y)) y (.ins C dy [])) (fun v H2 => v = .non ∧ kk (.ref y) H2) (L2.WE W σ) := by
  have hy2 : upd H1 dy (.own y) y = none := by rw [upd_ne ne.symm]; exact hy
  have t1 := s1.good.fresh (o := .own y) hdy
  have t2 := t1.good.fresh (o := .ins C dy []) hy2
  have back : ∀ a, upd (upd H1 dy (.own y)) y (.ins C dy []) a = none → H1 a = none := fun a z => by
    by_cases ha : a = y
    · subst ha; exact hy
    · rw [upd_ne ha] at z
      by_cases hb : a = dy
      · subst hb; exact hdy
      · rw [upd_ne hb] at z; exact z
  have fwd : ∀ a o, H1 a = some o → upd (upd H1 dy (.own y)) y (.ins C dy []) a = some o := fun a o z => by
    rw [upd_ne (ne_of_none z hy), upd_ne (ne_of_none z hdy)]; exact z
  have stp : ∀ (F' H' : Hp), Same F1 F' → Good X.K none F' H' → (∀ a, F1 a = none → F' a ≠ none → upd (upd H1 dy (.own y)) y (.ins C dy []) a = none) → (∀ a o, a ≠ y → upd (upd H1 dy (.own y)) y (.ins C dy []) a = some o → H' a = some o) → Step X.K m F1 H1 F' H' := fun F' H' sm g' nw kp => by
    have kp2 : ∀ a o, H1 a = some o → H' a = some o := fun a o z => kp a o (ne_of_none z hy) (fwd a o z)
    refine ⟨sm, ⟨g'.sub, fun b hb => ?_⟩, fun a h1 h2 => back a (nw a h1 h2), fun a o _ z => kp2 a o z⟩
    obtain ⟨hF1, hB⟩ := s1.good.bag b hb
    obtain ⟨⟨u, hu⟩, u2, hu2⟩ := hB.some
    refine ⟨⟨?_, ?_⟩, hB.mono ((kp2 b.b u hu).trans hu.symm) ((kp2 b.l u2 hu2).trans hu2.symm)⟩
    · cases e : F' b.b with
      | none => rfl
      | some o => exact absurd (back b.b (nw b.b hF1.1 (by rw [e]; exact fun z => nomatch z))) (by rw [hu]; exact fun z => nomatch z)
    · cases e : F' b.l with
      | none => rfl
      | some o => exact absurd (back b.l (nw b.l hF1.2 (by rw [e]; exact fun z => nomatch z))) (by rw [hu2]; exact fun z => nomatch z)
  refine ⟨by show vs.length + 1 = n + 1; rw [hvs.length, hq.1], y, vs, F1, ds, _, _, rfl, t2.good.any, s1.good.noF hy, ⟨dy, upd_same⟩, hvs, hq.2, fun F' H' dx' gs fs sm g' hF' nw kp hH' hn ha hP => ⟨rfl, ?_⟩, fun C' d fs F' H' sm g' hF' nw kp hx hP => ?_⟩
  · have st := stp F' H' sm g' nw kp
    have hm' : ¬ Touch m y := s1.good.notm hy
    refine t _ _ (upd F' y (.ins C dx' gs)) H' ⟨sm.trans (same_upd hF'), st.good.freeze hF' hm' hH', fun a h1 h2 => ?_, st.keep⟩ (.ins upd_same hn (ha.mono (same_upd hF'))) hP
    by_cases hay : a = y
    · subst hay; exact hy
    · rw [upd_ne hay] at h2; exact st.new a h1 h2
  · exact o.ex σ env F' H' C' d fs ((s.after s1).after (stp F' H' sm g' nw kp)) (hx.imp fun a z _ => (s.step.trans s1).none0 (back a z)) hP
theorem dl_setMakeX {A : List D → (List (Str × D) → Prop) → (Addr → List (Str × D) → Prop) → Prop} (dx : DX X P w K mg base N Vn L G S k) (F : MkAt P w K mg base x C k2 ps (spIX K C n A)) (h3 : At G j x) (hk : k2 + 1 ≤ k) (he : starEach (e :: es) X.env = (false, eval e X.env) :: starEach es X.env) (hpl : (backTo p3 (starEach es X.env)).any (·.1) = false)
    (h1 : At N i y) (h2 : At L j2 y) (hs : swapsWith (.Call (.Name x p2) (e :: es) [] p3) (some (.Name y p4)) pos.line X.env = pure false)
    (hw : WA X m env (e :: es) fun ds => ds.length = n ∧ A ds (fun fs => R.nx (env.set i (some (.frz (.ins C fs))))) fun C fs => R.ex C fs env) : WS X m env (.Assign [.Name y p4] (.Call (.Name x p2) (e :: es) [] p3) pos) R := by
  obtain ⟨f, fd, M, Fn, hb, hm⟩ := F.ex
  obtain ⟨g1, g2, g3⟩ := dx.g h3
  obtain ⟨l1, l2⟩ := dx.l h2
  have hi := dx.n h1
  obtain rfl := dx.prog
  obtain rfl := dx.w_
  obtain rfl := dx.K_
  obtain rfl := dx.mg_
  obtain rfl := dx.base_
  refine ⟨fun σ F0 H0 Fl F' H De W s o => tsc (ps_set dx.ndX hi l1 (pe_makeS M Fn (dx.room.mono hk) g1 hm hb (fun σ => passAt o.tk σ) pa_can g2 he hpl) hs l2) ?_⟩
  refine hw.run σ H0 F' H _ s.good s.env fun vs ds F1 H1 s1 hvs q => ?_
  intro yy dy hy hdy ne
  exact make_X (R := R) (Pd := fun d => R.nx (env.set i (some (.frz d)))) s o s1 hvs q (fun v d F2 H2 s2 hv hP => o.nx _ _ F2 H2 ⟨(s.step.trans s1).trans s2, ((s.env.step s1).step s2).frz hv, (s.fl.trans s1.fs).trans s2.fs⟩ hP) hy hdy ne
theorem dl_retMakeX {A : List D → (List (Str × D) → Prop) → (Addr → List (Str × D) → Prop) → Prop} (dx : DX X P w K mg base N Vn L G S k) (F : MkAt P w K mg base x C k2 ps (spIX K C n A)) (h3 : At G j x) (hk : k2 + 1 ≤ k) (he : starEach (e :: es) X.env = (false, eval e X.env) :: starEach es X.env) (hpl : (backTo p3 (starEach es X.env)).any (·.1) = false)
    (hw : WA X m env (e :: es) fun ds => ds.length = n ∧ A ds (fun fs => R.rt (.ins C fs) env) fun C fs => R.ex C fs env) : WS X m env (.Return (some (.Call (.Name x p2) (e :: es) [] p3)) pos) R := by
  obtain ⟨f, fd, M, Fn, hb, hm⟩ := F.ex
  obtain ⟨g1, g2, g3⟩ := dx.g h3
  obtain rfl := dx.prog
  obtain rfl := dx.w_
  obtain rfl := dx.K_
  obtain rfl := dx.mg_
  obtain rfl := dx.base_
  refine ⟨fun σ F0 H0 Fl F' H De W s o => tsc (ps_ret (pe_makeS M Fn (dx.room.mono hk) g1 hm hb (fun σ => passAt o.tk σ) pa_can g2 he hpl)) ?_⟩
  refine hw.run σ H0 F' H _ s.good s.env fun vs ds F1 H1 s1 hvs q => ?_
  intro yy dy hy hdy ne
  exact make_X (R := R) (Pd := fun d => R.rt d env) s o s1 hvs q (fun v d F2 H2 s2 hv hP => o.rt v d σ env F2 H2 ((s.after s1).after s2) hv hP) hy hdy ne
end
end DL
set_option Elab.async false
set_option linter.all false
set_option maxRecDepth 100000
set_option autoImplicit false
/-! DLX, part 3: an __init__ that may raise; try. -/
namespace DL
open PySem L2
section
variable {P : Program} {w : World} {K : PySem.W.Frag} {mg : Str → Option Value} {base : Heap}
theorem Fun.okInitX {x qual : Str} {st : Stmt} {f C : Addr} {fd : FuncData} {N Vn L G ps : List Str} {k n : Nat} {A : List D → (List (Str × D) → Prop) → (Addr → List (Str × D) → Prop) → Prop} (Fn : Fun K x qual st f fd) (S : FnScope N ps (defScope st)) (hps : ps.length = n + 1)
    (hv : ∀ x ∈ Vn, VisOk (defScope st) x = true) (hl : ∀ x ∈ L, LocOk (defScope st) x = true) (hg : ∀ x ∈ G, GlOk (defScope st) x = true)
    (hb : ∀ (X : Cx) (q0 : Addr) (ds : List D) (Q : List (Str × D) → Prop) (QX : Addr → List (Str × D) → Prop), DX X P w K mg base N Vn L G (defScope st) k → ds.length = n → A ds Q QX →
      WSs X none (some (.own q0 (.obj C [])) :: (ds.map fun d => some (.frz d)) ++ List.replicate (N.length - (n + 1)) none) (defBody st)
        { nx := fun env => ∃ fs, env[0]? = some (some (.own q0 (.obj C fs))) ∧ Q fs, rt := fun _ _ => False, ex := fun C' fs env => (∃ fs0, env[0]? = some (some (.own q0 (.obj C fs0)))) ∧ QX C' fs }) :
    FnOk P w K mg base (L2.CX P w) (k + 1) f fd ps (spIX K C n A) := by
  refine Fn.okX S (fun vs H Q E h => by rw [hps]; exact h.1) fun cdv Ar outer s H vs Q E hr h => ⟨_, pss_can, ?_⟩
  obtain ⟨hlen, b, ws, F, ds, Q', QX, rfl, g, hFb, ⟨db, hH⟩, ha, hA, t, tx⟩ := h
  have hd : ds.length = n := by rw [← ha.length]; simpa using hlen
  let H0 : Hp := fun a => if a = b then none else H a
  have h0b : H0 b = none := if_pos rfl
  have h0 : ∀ a, a ≠ b → H0 a = H a := fun a h => if_neg h
  have hst : (some (.own b (.obj C [])) :: (ds.map fun d => some (.frz d)) ++ List.replicate (N.length - (n + 1)) none : Ev) = (envOf N (.ref b :: ds)).set 0 (some (.own b (.obj C []))) := by
    unfold envOf
    simp [hd]
  have e0 : Envs K none H F H (L2.start N (.ref b :: ws)) (envOf N (.ref b :: ds)) := envs_start (.cons (.ref b) ha)
  have start : Sta K none F H0 F F H (L2.start N (.ref b :: ws)) (some (.own b (.obj C [])) :: (ds.map fun d => some (.frz d)) ++ List.replicate (N.length - (n + 1)) none) := by
    rw [hst]
    have frz : ∀ (j : Nat) (s : Slot), (envOf N (.ref b :: ds))[j]? = some (some s) → ∃ d, s = .frz d := fun j s e => by
      unfold envOf at e
      rcases Nat.lt_or_ge j (D.ref b :: ds).length with hi | hi
      · rw [List.getElem?_append_left (by simpa using hi), List.getElem?_map] at e
        cases e1 : (D.ref b :: ds)[j]? with
        | none => rw [e1] at e; cases e
        | some d => rw [e1] at e; cases e; exact ⟨d, rfl⟩
      · rw [List.getElem?_append_right (by simpa using hi)] at e
        have := List.eq_of_mem_replicate (List.mem_of_getElem? e)
        cases this
    refine ⟨⟨Same.refl _, g, fun a h1 h2 => absurd h1 h2, fun a o _ h => ?_⟩, ⟨fun j s e => ?_, by rw [List.length_set]; exact e0.len, fun j k ds' es p hjk e1 e2 => ?_⟩, Same.refl _⟩
    · by_cases hab : a = b
      · subst hab; rw [h0b] at h; cases h
      · rw [h0 a hab] at h; exact h
    · rcases set_at e with ⟨rfl, hl, e⟩ | ⟨hij, e⟩
      · cases e
        exact ⟨.ref b, rfl, _, rfl, (fun z => nomatch z), hFb, h0b, hH, db, [], rfl, rfl, .nil⟩
      · obtain ⟨d, rfl⟩ := frz j s e
        obtain ⟨v, h1, h2⟩ := e0.at_ j _ e
        exact ⟨v, h1, h2⟩
    · rcases set_at e1 with ⟨rfl, hl, e⟩ | ⟨hij, e⟩
      · rcases set_at e2 with ⟨z, _, _⟩ | ⟨_, e⟩
        · exact hjk z
        · obtain ⟨d, z⟩ := frz k _ e; cases z
      · obtain ⟨d, z⟩ := frz j _ e; cases z
  have gone : ∀ {Fl F' H' : Hp} {σ : L2.St} {env : Ev} {fs : List (Str × D)}, Sta K none F H0 Fl F' H' σ env → env[0]? = some (some (.own b (.obj C fs))) → F' b = none ∧ (∀ a, F a = none → F' a ≠ none → H a = none) ∧ ∀ a o, a ≠ b → H a = some o → H' a = some o := fun {Fl F' H' σ env fs} s' he => by
    obtain ⟨v0, hσ0, ho, _, _, hFp, _⟩ := s'.env.at_ 0 _ he
    refine ⟨hFp, fun a h1 h2 => ?_, fun a o hab ho => s'.step.keep a o (fun z => nomatch z) (by rw [h0 a hab]; exact ho)⟩
    by_cases hab : a = b
    · subst hab; exact absurd hFp h2
    · rw [← h0 a hab]; exact s'.step.new a h1 h2
  refine (hb _ b ds Q' QX (dx_of (x := x) S hv hl hg hr) hd hA).run _ F H0 F F H _ (fun cls d _ H => E cls d H) start ?_
  refine ⟨fun σ env F' H' s' q => ?_, fun _ _ _ _ _ _ _ _ z => z.elim, fun _ _ _ _ _ z => z.elim, fun _ _ _ _ _ z => z.elim, takes_of rfl rfl rfl rfl, fun σ env F' H' C' d fs s' hx q => ?_⟩
  · obtain ⟨fs, he, q⟩ := q
    obtain ⟨h1, h2, h3⟩ := gone s' he
    obtain ⟨v0, hσ0, ho, _, _, _, _, hHp, da, gs, rfl, hn, hap⟩ := s'.env.at_ 0 _ he
    exact t F' H' da gs fs s'.step.fs s'.step.good h1 h2 h3 hHp hn hap q
  · obtain ⟨⟨fs0, he⟩, q⟩ := q
    obtain ⟨h1, h2, h3⟩ := gone s' he
    obtain ⟨v0, hσ0, ho, _, _, _, _, hHp, da, gs0, rfl, _⟩ := s'.env.at_ 0 _ he
    refine tx C' d fs F' H' s'.step.fs s'.step.good h1 h2 h3 (hx.imp fun a z ⟨gs, hg⟩ => ?_) q
    rw [← h0 a fun e => by rw [e, hHp] at hg; cases hg]
    exact z
end

/-! ### a context by fewer facts: within an except suite -/
structure DY (X : Cx) (K : PySem.W.Frag) (mg : Str → Option Value) (N Vn G : List Str) (S : Scope) : Prop where
  K_ : X.K = K
  mg_ : X.mg = mg
  N_ : X.N = N
  S_ : X.env.scope = S
  vis : ∀ x ∈ Vn, VisOk S x = true
  gl : ∀ x ∈ G, GlOk S x = true
section
variable {X : Cx} {P : Program} {w : World} {K : PySem.W.Frag} {mg : Str → Option Value} {base : Heap} {N Vn L G B : List Str} {S : Scope} {k k2 n : Nat} {x y : Str} {i j j2 : Nat}
variable {m : Option Mem} {env : Ev} {a b c e iter elt o tg : Expr} {es : List Expr} {Q : D → Prop} {pos p2 p3 p4 pr : Pos} {R : DEnds} {rest body els : List Stmt} {ps : List Str} {C : Addr}
theorem DX.toY (dx : DX X P w K mg base N Vn L G S k) : DY X K mg N Vn G S := ⟨dx.K_, dx.mg_, dx.N_, dx.S_, dx.vis, dx.gl⟩
theorem dy_name (dy : DY X K mg N Vn G S) (h1 : At N i x) (h2 : At Vn j x) {d : D} (he : env[i]? = some (some (.frz d))) (h : Q d) : WE X m env (.Name x pos) Q := by
  have q := dy.vis x h2.mem
  unfold VisOk at q
  simp only [Bool.and_eq_true, Bool.not_eq_true'] at q
  refine we_name i (by rw [dy.N_]; exact h1.get) ?_ q.1.2 q.2 he h
  have q1 := q.1.1
  unfold Vis
  rw [dy.S_]
  cases e : S.names.lookup x with
  | none => rw [e] at q1; cases q1
  | some kd =>
    rw [e] at q1
    cases kd <;> first | exact .inl rfl | exact .inr (.inl rfl) | exact .inr (.inr rfl) | cases q1
theorem DY.g (dx : DY X K mg N Vn G S) (h : At G j x) : Gl X x ∧ (x == ("__debug__" : Str)) = false ∧ x ≠ "__name__" := by
  have q := dx.gl x h.mem
  unfold GlOk at q
  simp only [Bool.and_eq_true, Bool.not_eq_true'] at q
  refine ⟨?_, q.1.2, fun z => by have := q.2; rw [z] at this; simp at this⟩
  have q1 := q.1.1
  show X.env.scope.names.lookup x = some .globalImplicit
  rw [dx.S_]
  cases e : S.names.lookup x with
  | none => rw [e] at q1; cases q1
  | some kd =>
    rw [e] at q1
    cases kd <;> first | rfl | cases q1
/-- what an except suite's context is: the exception at ad, of the class at C -/
structure Suite (X' : Cx) (ad C : Addr) (d : Option Addr) : Prop where
  ex : ∃ (X : Cx) (oe : Obj) (pn : List (Addr × Obj)), X' = X.suite ad ((ad, oe) :: pn) ∧ Zc (.ref C) d oe ∧ ∃ vs, oe.data = .fields vs
/-- isinstance(e, T), e the suite's own exception without parts, T an own class -/
theorem dy_isE {ad T : Addr} {r : Bool} (dy : DY X K mg N Vn G S) (bn : NoMg mg B) (su : Suite X ad C none) (hc : ExcC K C) (h1 : At N i x) (h2 : At Vn j x) (he : env[i]? = some (some (.frz (.ref ad)))) (h3 : At G j2 "isinstance") {j3 j4 : Nat} (h4 : At B j3 "isinstance") (h5 : At G j4 y) (hy : mg y = some (.ref T))
    (hk : PySem.W.kitOne K (.ref C) (.ref T) = some r) (h : Q (.bl r)) : WE X m env (.Call (.Name "isinstance" p2) [.Name x p3, .Name y p4] [] pos) Q := by
  obtain ⟨X0, oe, pn, rfl, hz, hf⟩ := su.ex
  obtain ⟨g1, g2, g3⟩ := dy.g h3
  obtain ⟨y1, y2, y3⟩ := dy.g h5
  obtain rfl := dy.K_
  refine we_cb (call_isE hc hz hf) g1 (by rw [dy.mg_]; exact bn _ h4.mem) boot_isinstance g3 g2 rfl rfl (wa_cons (dy_name dy h1 h2 he (wa_cons (we_glob (d := .ref T) (v := .ref T) (u := .ref T) y1 (by rw [dy.mg_]; exact hy) rfl rfl y2 (wa_nil ⟨fun F H vs kk g hvs t => ?_⟩)) rfl)) rfl)
  cases hvs with
  | cons a1 r1 =>
    cases a1
    cases r1 with
    | cons a2 r2 =>
      cases a2
      cases r2
      exact ⟨.ref T, .ref T, r, rfl, fun u ru => ru, hk, t.at g (.bl r) h⟩

/-! ### try: clauses that name the exception -/
structure Clause where
  /-- the class that is caught -/
  c : Addr
  /-- the name's place -/
  i : Nat
  body : List Stmt
/-- the exception that a suite holds, as data -/
def ExD (ad C : Addr) (d : Option Addr) (fs : List (Str × D)) (s : D) : Prop := (d = none ∧ fs = [] ∧ s = .ref ad) ∨ ∃ dd, d = some dd ∧ fs ≠ [] ∧ s = .exc ad C dd fs
theorem ExD.bare {ad C : Addr} {d : Option Addr} {s : D} (h : ExD ad C d [] s) : d = none ∧ s = .ref ad := by
  rcases h with ⟨h1, _, h2⟩ | ⟨dd, _, h, _⟩
  · exact ⟨h1, h2⟩
  · exact absurd rfl h
theorem ExD.part {ad C : Addr} {d : Option Addr} {f : Str × D} {fs : List (Str × D)} {s : D} (h : ExD ad C d (f :: fs) s) : ∃ dd, d = some dd ∧ s = .exc ad C dd (f :: fs) := by
  rcases h with ⟨_, h, _⟩ | ⟨dd, h1, _, h2⟩
  · cases h
  · exact ⟨dd, h1, h2⟩
/-- what comes of an exception of the class at C with the parts fs: the first clause that fits -/
def Caught (X : Cx) (m : Option Mem) (K : PySem.W.Frag) (R : DEnds) : List Clause → Addr → List (Str × D) → Ev → Prop
  | [], C, fs, env => R.ex C fs env
  | q :: r, C, fs, env => ∃ b, PySem.W.exmOne K (.ref C) (.ref q.c) = some b ∧
      (b = true → ∀ X' ad d, Suite X' ad C d → X'.K = X.K → X'.mg = X.mg → X'.N = X.N → X'.env = X.env → ∀ s, ExD ad C d fs s → WSs X' m (env.set q.i (some (.frz s))) q.body { nx := fun ev => R.nx (ev.set q.i none), rt := R.rt }) ∧
      (b = false → Caught X m K R r C fs env)
/-- the slots at a suite's beginning -/
theorem suite_sta {K : PySem.W.Frag} {m : Option Mem} {F0 H0 Fl F H : Hp} {σ : L2.St} {env : Ev} {d : Option Addr} {fs : List (Str × D)} {a C : Addr} (s : Sta K m F0 H0 Fl F H σ env) (hx : ExIs K H0 F H d fs) (i : Nat) : ∃ (F2 : Hp) (x : D), ExD a C d fs x ∧ Sta K m F0 H0 Fl F2 H (σ.set i (some (.ref a))) (env.set i (some (.frz x))) := by
  cases d with
  | none => exact ⟨F, .ref a, .inl ⟨rfl, hx, rfl⟩, s.step, s.env.frz (.ref a), s.fl⟩
  | some dd =>
    obtain ⟨h1, h2, h3, gs, h4, h5, h6⟩ := hx
    have sm : Same F (upd F dd (.xd gs)) := same_upd h3
    have nt : ¬ Touch m dd := fun z => by
      obtain ⟨xs, e⟩ := s.step.good.touchL z
      rw [h4] at e; cases e
    refine ⟨upd F dd (.xd gs), .exc a C dd fs, .inr ⟨dd, rfl, h1, rfl⟩, ⟨s.step.fs.trans sm, s.step.good.freeze h3 nt h4, fun b q1 q2 => ?_, s.step.keep⟩, (s.env.freezeX h3 h4).frz (.exc upd_same h5 (h6.mono sm)), s.fl.trans sm⟩
    by_cases hb : b = dd
    · subst hb; exact h2
    · rw [upd_ne hb] at q2; exact s.step.new b q1 q2
theorem dl_try2 {x1 x2 n1 n2 : Str} {c1 c2 : Addr} {i1 i2 j1 j3 j5 j6 : Nat} {b1 b2 : Stmt} {s1 s2 : List Stmt} {np1 np2 hp1 hp2 : Pos} (dx : DX X P w K mg base N Vn L G S k) (hst : X.stack = X.env :: X.outer) (hfr : X.env.frame = some X.env.locals)
    (g1 : At G j1 x1) (m1 : mg x1 = some (.ref c1)) (h1 : At N i1 n1) (k1 : X.env.kindOf n1 = some .local) (g2 : At G j3 x2) (m2 : mg x2 = some (.ref c2)) (h2 : At N i2 n2) (k2 : X.env.kindOf n2 = some .local)
    (hw : ∀ X', DX X' P w K mg base N Vn L G S k → WSs X' m env body { R with ex := Caught X m K R [⟨c1, i1, b1 :: s1⟩, ⟨c2, i2, b2 :: s2⟩] }) :
    WS X m env (.Try body [.ExceptHandler (some (.Name x1 np1)) (some n1) (b1 :: s1) hp1, .ExceptHandler (some (.Name x2 np2)) (some n2) (b2 :: s2) hp2] [] [] pos) R := by
  have nm : ∀ {x : Str} {c : Addr} {j : Nat}, At G j x → mg x = some (.ref c) → Names X x (.ref c) := fun {x c j} hg hm => ⟨(dx.g hg).1, (dx.g hg).2.1, .inl (by rw [dx.mg_]; exact hm)⟩
  let TB : WX → TS := fun W De σ H => ∀ (pn : List (Addr × Obj)) (xe : Value → Shared → Prop), Takes (X.tr pn xe) W → PassesOwn (model X.prog X.w) X.A X.env xe → TSsc (X.tr pn xe) body De σ H
  let TSu : List Stmt → Addr → Value → Option Addr → TS := fun sts a cls d De σ H => ∀ oe pn, Zc cls d oe → (∃ vs, oe.data = .fields vs) → TSsc (X.suite a ((a, oe) :: pn)) sts De σ H
  refine ⟨fun σ F0 H0 Fl F H De W s o => tsc (ps_try_named (tb := TB) (l := [(.ref c1, i1, TSu (b1 :: s1)), (.ref c2, i2, TSu (b2 :: s2))]) hst hfr dx.ndX o.tk
    (fun W' pn xe tk po => ⟨fun pins s' σ' H' D' I h => h pn xe tk po pins s' I⟩)
    (.cons (nm g1 m1) (dx.n h1) k1 (fun a oe cls d pn hz hf => ⟨fun pins s' σ' H' D' I h => h oe pn hz hf pins s' I⟩) (.cons (nm g2 m2) (dx.n h2) k2 (fun a oe cls d pn hz hf => ⟨fun pins s' σ' H' D' I h => h oe pn hz hf pins s' I⟩) .nil))) ?_⟩
  intro pn xe tk po
  have dx' : DX (X.tr pn xe) P w K mg base N Vn L G S k := ⟨dx.prog, dx.w_, dx.K_, dx.mg_, dx.base_, dx.N_, dx.nd, dx.S_, dx.vis, dx.loc, dx.fn, dx.gl, dx.calm, dx.room, po⟩
  refine (hw _ dx').run σ F0 H0 Fl F H De _ s ⟨o.nx, o.rt, o.bk, o.ct, tk, fun σ' env' F' H' C d fs s' hx q => ?_⟩
  -- a clause that fits
  have suite : ∀ {cc : Addr} {i : Nat} {sts : List Stmt}, (∀ X' ad d, Suite X' ad C d → X'.K = X.K → X'.mg = X.mg → X'.N = X.N → X'.env = X.env → ∀ x, ExD ad C d fs x → WSs X' m (env'.set i (some (.frz x))) sts { nx := fun ev => R.nx (ev.set i none), rt := R.rt }) →
      ∀ a, H' a = none → TSu sts a (.ref C) d (aEnds i De) (σ'.set i (some (.ref a))) H' := fun {cc i sts} h a ha => by
    have hK : ExIs X.K H0 F' H' d fs := hx
    obtain ⟨F2', x, hxd, st⟩ := suite_sta (a := a) (C := C) s' hK i
    intro oe pn' hz hf
    refine (h (X.suite a ((a, oe) :: pn')) a d ⟨X, oe, pn', rfl, hz, hf⟩ rfl rfl rfl rfl x hxd).run _ F0 H0 Fl F2' H' _ (fun _ _ _ _ => False) st ?_
    refine ⟨fun σ2 env2 F2 H2 s2 q2 => o.nx _ _ F2 H2 ⟨s2.step, s2.env.wipe, s2.fl⟩ q2, fun v d σ2 env2 F2 H2 s2 hv q2 => o.rt v d σ2 env2 F2 H2 ⟨s2.step, s2.env, s2.fl⟩ hv q2, fun _ _ _ _ _ z => z.elim, fun _ _ _ _ _ z => z.elim, takes0, fun _ _ _ _ _ _ _ _ _ z => z.elim⟩
  obtain ⟨r1, e1, y1, n1'⟩ := q
  refine ⟨r1, by rw [dx.K_]; exact e1, fun hb a ha => suite (cc := c1) (y1 hb) a ha, fun hb => ?_⟩
  obtain ⟨r2, e2, y2, n2'⟩ := n1' hb
  refine ⟨r2, by rw [dx.K_]; exact e2, fun hb a ha => suite (cc := c2) (y2 hb) a ha, fun hb => ?_⟩
  exact o.ex σ' env' F' H' C d fs s' hx (n2' hb)
end
end DL
set_option Elab.async false
set_option linter.all false
set_option maxRecDepth 100000
set_option autoImplicit false
/-! DL, part 11: chains of comparisons, a def with a try, small facts. -/
namespace DL
open PySem L2
section
variable {X : Cx} {m : Option Mem} {env : Ev} {a b c : Expr} {Q : D → Prop} {pos : Pos}
theorem we_lele (hm : lastMarks [.LtE, .LtE] [b, c] = false) (w : WE X m env a fun x => WE X m env b fun y => asInt x fun i => asInt y fun j => if decide (i ≤ j) = true then WE X m env c fun z => asInt z fun k => Q (.bl (decide (j ≤ k))) else Q (.bl false)) : WE X m env (.Compare a [.LtE, .LtE] [b, c] pos) Q :=
  we_chain op_le op_le (pe_chain op_le op_le pe_can pe_can pe_can hm) w
theorem we_lelt (hm : lastMarks [.LtE, .Lt] [b, c] = false) (w : WE X m env a fun x => WE X m env b fun y => asInt x fun i => asInt y fun j => if decide (i ≤ j) = true then WE X m env c fun z => asInt z fun k => Q (.bl (decide (j < k))) else Q (.bl false)) : WE X m env (.Compare a [.LtE, .Lt] [b, c] pos) Q :=
  we_chain op_le op_lt (pe_chain op_le op_lt pe_can pe_can pe_can hm) w
theorem wt_lele {P : Bool → Prop} (hm : lastMarks [.LtE, .LtE] [b, c] = false)
    (w : WE X m env a fun x => WE X m env b fun y => asInt x fun i => asInt y fun j => if decide (i ≤ j) = true then WE X m env c fun z => asInt z fun k => P (decide (j ≤ k)) else P false) : WT X m env (.Compare a [.LtE, .LtE] [b, c] pos) P := by
  refine ⟨fun σ H0 F H k g ev t => ttc (pt_chain op_le op_le pe_can pe_can pe_can hm) ?_⟩
  refine w.run σ H0 F H _ g ev fun x dx F1 H1 s1 hx w1 => ?_
  refine w1.run σ H0 F1 H1 _ s1.good (ev.step s1) fun y dy F2 H2 s2 hy q => ?_
  obtain ⟨i, rfl, rfl, q1⟩ := hx.asInt q
  obtain ⟨j, rfl, rfl, q2⟩ := hy.asInt q1
  refine ⟨i, j, rfl, rfl, decide (i ≤ j), rfl, ?_⟩
  cases e : decide (i ≤ j) with
  | true =>
    rw [if_pos e] at q2
    rw [if_pos rfl]
    refine q2.run σ H0 F2 H2 _ s2.good ((ev.step s1).step s2) fun z dz F3 H3 s3 hz qz => ?_
    obtain ⟨n, rfl, rfl, qz⟩ := hz.asInt qz
    exact ⟨j, n, rfl, rfl, _, rfl, (((t.after s1).after s2).after s3).at s3.good qz⟩
  | false =>
    rw [if_neg (by rw [e]; exact Bool.false_ne_true)] at q2
    rw [if_neg Bool.false_ne_true]
    exact ⟨_, rfl, ((t.after s1).after s2).at s2.good q2⟩
end
def D.isInt : D → Bool | .int _ => true | _ => false
def D.isBl : D → Bool | .bl _ => true | _ => false
def D.isLst : D → Bool | .lst _ => true | _ => false
def D.plain (d : D) : Prop := ∃ n, d.tyn = some n
theorem kit_int {d : D} {n : String} (h : d.tyn = some n) : kitB n "int" = some (d.isInt || d.isBl) := by
  cases d <;> simp only [D.tyn, Option.some.injEq, reduceCtorEq] at h <;> subst h
  · exact (by decide +kernel : kitB "NoneType" "int" = some false)
  · exact (by decide +kernel : kitB "bool" "int" = some true)
  · exact (by decide +kernel : kitB "int" "int" = some true)
  · exact (by decide +kernel : kitB "str" "int" = some false)
  all_goals first
  | exact (by decide +kernel : kitB "list" "int" = some false)
  | exact (by decide +kernel : kitB "tuple" "int" = some false)
theorem kit_bool {d : D} {n : String} (h : d.tyn = some n) : kitB n "bool" = some d.isBl := by
  cases d <;> simp only [D.tyn, Option.some.injEq, reduceCtorEq] at h <;> subst h
  · exact (by decide +kernel : kitB "NoneType" "bool" = some false)
  · exact (by decide +kernel : kitB "bool" "bool" = some true)
  · exact (by decide +kernel : kitB "int" "bool" = some false)
  · exact (by decide +kernel : kitB "str" "bool" = some false)
  all_goals first
  | exact (by decide +kernel : kitB "list" "bool" = some false)
  | exact (by decide +kernel : kitB "tuple" "bool" = some false)
theorem kit_list {d : D} {n : String} (h : d.tyn = some n) : kitB n "list" = some d.isLst := by
  cases d <;> simp only [D.tyn, Option.some.injEq, reduceCtorEq] at h <;> subst h
  · exact (by decide +kernel : kitB "NoneType" "list" = some false)
  · exact (by decide +kernel : kitB "bool" "list" = some false)
  · exact (by decide +kernel : kitB "int" "list" = some false)
  · exact (by decide +kernel : kitB "str" "list" = some false)
  all_goals first
  | exact (by decide +kernel : kitB "list" "list" = some true)
  | exact (by decide +kernel : kitB "tuple" "list" = some false)
/-- as okD2, for a def with a try: its frame is its own -/
theorem Fun.okD3 {P : Program} {w : World} {K : PySem.W.Frag} {mg : Str → Option Value} {base : Heap} {x qual : Str} {st : Stmt} {f : Addr} {fd : FuncData} {N Vn L G ps : List Str} {k : Nat} {A : List D → (D → Prop) → Prop} (Fn : Fun K x qual st f fd) (S : FnScope N ps (defScope st))
    (hv : ∀ x ∈ Vn, VisOk (defScope st) x = true) (hl : ∀ x ∈ L, LocOk (defScope st) x = true) (hg : ∀ x ∈ G, GlOk (defScope st) x = true)
    (hb : ∀ (X : Cx) (ds : List D) (Q : D → Prop), DX X P w K mg base N Vn L G (defScope st) k → X.stack = X.env :: X.outer → X.env.frame = some X.env.locals → ds.length = ps.length → A ds Q → WSs X none (envOf N ds) (defBody st) { nx := fun _ => Q .non, rt := fun d _ => Q d }) :
    FnOk P w K mg base (L2.CX P w) (k + 1) f fd ps (spD K none ps.length A) :=
  Fun.okD Fn S fun cdv Ar outer s H E ds Q hr h1 h2 => hb _ ds Q (dx_of (x := x) S hv hl hg hr) rfl rfl h1 h2
theorem kind_of {X : Cx} {P : Program} {w : World} {K : PySem.W.Frag} {mg : Str → Option Value} {base : Heap} {N Vn L G : List Str} {S : Scope} {k : Nat} {n : Str} (dx : DX X P w K mg base N Vn L G S k) (h : S.names.lookup n = some .local) : X.env.kindOf n = some .local := by
  show X.env.scope.names.lookup n = some .local
  rw [dx.S_]
  exact h
end DL
set_option Elab.async false
set_option linter.all false
set_option maxRecDepth 100000
set_option autoImplicit false
/-! DL, part 12: comprehensions over range(a, b); the def that makes the bag; the law's own def. -/
namespace DL
open PySem L2
section
variable {X : Cx} {m : Option Mem} {env : Ev} {a b c e elt iter tg : Expr} {es : List Expr} {pos p2 p3 pr : Pos} {scope : Scope} {x : Str} {t : Nat}
theorem we_neg {Q : D → Prop} {pos : Pos} (w : WE X m env a fun x => asInt x fun c => Q (.int (-c))) : WE X m env (.UnaryOp .USub a pos) Q := by
  refine ⟨fun σ H0 F H k g ev t => tec (pe_un un_neg pe_can) ?_⟩
  refine w.run σ H0 F H _ g ev fun v d F1 H1 s1 hv q => ?_
  obtain ⟨c, rfl, rfl, q⟩ := hv.asInt q
  exact ⟨c, rfl, (t.after s1).at s1.good (.int _) q⟩
theorem wl_compR2 (t : Nat) (own : List (Str × Nat)) (hown : own.map (·.2) = [t]) (hc : X.calm = true) (hN : X.N.Nodup) (ok : BlkOk X.N X.env.scope scope own) (hg : ∀ (s : Shared) (H : Hp) (C : Addr) (cl : List (Str × Addr)) (fp : List Addr), PG (X.blk s H scope (compEnvC scope cl C X.env) fp) tg (gName t))
    (hrg : Gl X "range") (hrm : X.mg "range" = none) (hst : starEach [a, b] X.env = [(false, eval a X.env), (false, eval b X.env)]) (hst2 : starEach [b] X.env = [(false, eval b X.env)])
    (hs : ∀ x, foldedSetIterable (.Call (.Name "range" p2) [a, b] [] pr) X.env x = pure x) {P : List D → Prop}
    (w : WE X m env a fun x => WE X m env b fun y => asInt x fun u => asInt y fun n => (-1000000 ≤ u ∧ u ≤ 1000000 ∧ -1000000 ≤ n ∧ n ≤ 1000000 ∧ n - u ≤ 1000000) ∧ ∃ Pi : Nat → D → Prop, (∀ (i : Nat), u + (i : Int) < n → WB X m ((env.set t none).set t (some (.frz (.int (u + i))))) scope elt (Pi i)) ∧ ∀ es : List D, es.length = (n - u).toNat → (∀ (i : Nat) (e : D), es[i]? = some e → Pi i e) → P es) :
    WL X m env (.ListComp elt [⟨tg, .Call (.Name "range" p2) [a, b] [] pr, [], 0⟩] scope pos) P := by
  refine ⟨fun σ H0 F H k g ev th => tec (pe_lc (te := TBc X scope elt) hc hN (pi_range2 hrg hrm (pa_cons pe_can (pa_cons pe_can pa_nil hst2) (by rw [hst, hst2])) hst hst2) ok hg (fun _ _ _ _ _ => pts_nil) (fun s H C cl fp => ⟨fun pins s2 σ2 H2 Q I h => h s H C cl fp pins s2 I⟩) hs) ?_⟩
  refine w.run σ H0 F H _ g ev fun v d F1 H1 s1 hv w1 => ?_
  refine w1.run σ H0 F1 H1 _ s1.good (ev.step s1) fun v2 d2 F2 H2 s2 hv2 q => ?_
  obtain ⟨u, rfl, rfl, q⟩ := hv.asInt q
  obtain ⟨n, rfl, rfl, hz, Pi, hP, hQ⟩ := hv2.asInt q
  have st := s1.trans s2
  refine ⟨u, n, rfl, ⟨by omega, by omega, by omega, by omega⟩, fun L hL => ?_⟩
  rw [hown]
  refine lc_range (CompI X.K m F2 H2 L Pi) (comp_start (σ := σ) s2.good hL) (fun i H3 hi I => ?_) fun H3 I => ?_
  · exact comp_turn ((ev.step s1).step s2) hL (s2.good.notm hL) (by omega) I (fun F' sm => .int _) (hP i (by omega))
  · exact comp_end g st hL I th hQ
end
section
variable {X : Cx} {P : Program} {w : World} {K : PySem.W.Frag} {mg : Str → Option Value} {base : Heap} {N Vn L G B : List Str} {S : Scope} {k k2 n : Nat} {x : Str} {i j j2 : Nat}
variable {m : Option Mem} {env : Ev} {a b c e iter elt o tg : Expr} {es : List Expr} {Q : D → Prop} {pos p2 p3 p4 pr : Pos} {R : DEnds} {rest body els : List Stmt} {ps : List Str} {A : List D → (D → Prop) → Prop} {C : Addr}
theorem dl_compR2 (t : Nat) (own : List (Str × Nat)) (Vc Gc : List Str) {scope : Scope} (dx : DX X P w K mg base N Vn L G S k) (bn : NoMg mg B) (ok : blkC N S scope own = true) (hown : own.map (·.2) = [t]) (h1 : At N t x) (hx : LocOk scope x = true) (hv : ∀ x ∈ Vc, VisOk (relS scope S) x = true) (hg : ∀ x ∈ Gc, GlOk (relS scope S) x = true)
    (h3 : At G j "range") (h4 : At B j2 "range") (hst : starEach [a, b] X.env = [(false, eval a X.env), (false, eval b X.env)]) (hst2 : starEach [b] X.env = [(false, eval b X.env)]) (hs : ∀ y, foldedSetIterable (.Call (.Name "range" p3) [a, b] [] pr) X.env y = pure y) {Q : List D → Prop}
    (hw : WE X m env a fun x => WE X m env b fun y => asInt x fun u => asInt y fun n => (-1000000 ≤ u ∧ u ≤ 1000000 ∧ -1000000 ≤ n ∧ n ≤ 1000000 ∧ n - u ≤ 1000000) ∧ ∃ Pi : Nat → D → Prop, (∀ (i : Nat), u + (i : Int) < n → ∀ X', DX X' P w K mg base N Vc [] Gc (relS scope S) k → X'.K = X.K → WE X' m ((env.set t none).set t (some (.frz (.int (u + i))))) elt (Pi i)) ∧ ∀ es : List D, es.length = (n - u).toNat → (∀ (i : Nat) (e : D), es[i]? = some e → Pi i e) → Q es) :
    WL X m env (.ListComp elt [⟨.Name x p2, .Call (.Name "range" p3) [a, b] [] pr, [], 0⟩] scope pos) Q := by
  refine wl_compR2 t own hown dx.calm dx.ndX (by rw [dx.N_, dx.S_]; exact blkOk_by ok) (blk_pg dx h1 hx) (dx.g h3).1 (dx.b bn h4) hst hst2 hs (hw.mono fun d q => q.mono fun d2 q => ?_)
  cases d <;> first | exact q.elim | skip
  cases d2 <;> first | exact q.elim | skip
  obtain ⟨hz, Pi, h2, h3⟩ := q
  exact ⟨hz, Pi, fun i hd => ⟨fun s H C cl fp => h2 i hd _ (blk_dx dx hv hg s H C cl fp) rfl⟩, h3⟩
end
/-! ### the bag: made new, and then handed about -/
/-- a def that gives a new list of its own -/
def spN (K : PySem.W.Frag) (n : Nat) (A : List D → (List D → Prop) → Prop) : Sp := fun vs H Q _ => vs.length = n ∧ ∃ F ds P, Good K none F H ∧ IsAll K F vs ds ∧ A ds P ∧ ThenL K none F H P Q
section
variable {P : Program} {w : World} {K : PySem.W.Frag} {mg : Str → Option Value} {base : Heap}
/-- `return [..]`, and nothing else -/
theorem Fun.okN {x qual : Str} {st : Stmt} {f : Addr} {fd : FuncData} {N Vn L G ps : List Str} {k : Nat} {e : Expr} {pos : Pos} {A : List D → (List D → Prop) → Prop} (Fn : Fun K x qual st f fd) (S : FnScope N ps (defScope st)) (hbody : defBody st = [.Return (some e) pos])
    (hv : ∀ x ∈ Vn, VisOk (defScope st) x = true) (hl : ∀ x ∈ L, LocOk (defScope st) x = true) (hg : ∀ x ∈ G, GlOk (defScope st) x = true)
    (hb : ∀ (X : Cx) (ds : List D) (Q : List D → Prop), DX X P w K mg base N Vn L G (defScope st) k → ds.length = ps.length → A ds Q → WL X none (envOf N ds) e Q) :
    FnOk P w K mg base (L2.CX P w) (k + 1) f fd ps (spN K ps.length A) := by
  refine Fn.okX S (fun vs H Q E h => h.1) fun cdv Ar outer s H vs Q E hr h => ⟨_, by rw [hbody]; exact pss_cons (ps_ret pe_can) pss_nil, ?_⟩
  obtain ⟨hl', F, ds, Q', g, ha, hA, t⟩ := h
  exact (hb _ ds Q' (dx_of (x := x) S hv hl hg hr) (by rw [← ha.length]; exact hl') hA).run _ H F H _ g (envs_start ha) t
end
section
variable {X : Cx} {P : Program} {w : World} {K : PySem.W.Frag} {mg : Str → Option Value} {base : Heap} {N Vn L G B : List Str} {S : Scope} {k k2 n : Nat} {x y : Str} {i j j2 : Nat}
variable {env : Ev} {e : Expr} {es : List Expr} {Q : D → Prop} {pos p2 p3 p4 : Pos} {rest : List Stmt} {ps : List Str} {A : List D → (List D → Prop) → Prop}
end
end DL
set_option Elab.async false
set_option linter.all false
set_option maxRecDepth 100000
set_option autoImplicit false
/-! DL, part 13: name = [.. for ..]. -/
namespace DL
open PySem L2
section
variable {X : Cx} {m : Option Mem} {env : Ev} {a b c e elt iter tg : Expr} {es : List Expr} {pos p2 p3 pr py spos : Pos} {scope : Scope} {x y : Str} {t : Nat} {R : DEnds}
theorem thF {F0 H0 Fl F H : Hp} {σ : L2.St} {De : Ends} {W : WX} {i : Nat} (s : Sta X.K m F0 H0 Fl F H σ env) (o : EndsOk X m F0 H0 Fl R De W) : ThenL X.K m F H (fun es => R.nx (env.set i (some (.frz (.lst es))))) (fun x H1 => De.nx (σ.set i (some x)) H1) := fun p xs ds F' H' h1 h2 st e ha hP => by
  have g := s.good
  have hm : ¬ Touch m p := g.notm h1
  have st2 : Step X.K m F H (upd F' p (.lst xs)) H' := by
    refine ⟨st.fs.trans (same_upd h2), st.good.freeze h2 hm e, fun a q1 q2 => ?_, st.keep⟩
    by_cases hap : a = p
    · subst hap; exact h1
    · rw [upd_ne hap] at q2; exact st.new a q1 q2
  exact o.nx _ _ _ H' ⟨s.step.trans st2, (s.env.step st2).frz (.lst upd_same (ha.mono (same_upd h2))), s.fl.trans st2.fs⟩ hP
theorem ws_setComp (i : Nat) (t : Nat) (own : List (Str × Nat)) (hown : own.map (·.2) = [t]) (hc : X.calm = true) (hN : X.N.Nodup) (hy : X.N[i]? = some y) (hyl : X.env.scope.names.lookup y = some .local) (hsw : swapsWith (.ListComp elt [⟨tg, iter, [], 0⟩] scope pos) (some (.Name y py)) spos.line X.env = pure true)
    (ok : BlkOk X.N X.env.scope scope own) (hg : ∀ (s : Shared) (H : Hp) (C : Addr) (cl : List (Str × Addr)) (fp : List Addr), PG (X.blk s H scope (compEnvC scope cl C X.env) fp) tg (gName t))
    (hs : ∀ x, foldedSetIterable iter X.env x = pure x)
    (w : WE X m env iter fun x => asLst x fun ds => ds.length ≤ 1000000 ∧ ∃ Pi : Nat → D → Prop, (∀ (i : Nat) (d : D), ds[i]? = some d → WB X m ((env.set t none).set t (some (.frz d))) scope elt (Pi i)) ∧ ∀ es : List D, es.length = ds.length → (∀ (i : Nat) (e : D), es[i]? = some e → Pi i e) → R.nx (env.set i (some (.frz (.lst es))))) :
    WS X m env (.Assign [.Name y py] (.ListComp elt [⟨tg, iter, [], 0⟩] scope pos) spos) R := by
  refine ⟨fun σ F0 H0 Fl F H De W s o => tsc (ps_setLc (te := TBc X scope elt) hc hN hy hyl hsw (pi_list pe_can) ok hg (fun _ _ _ _ _ => pts_nil) (fun s H C cl fp => ⟨fun pins s2 σ2 H2 Q I h => h s H C cl fp pins s2 I⟩) hs) ?_⟩
  have th := thF (i := i) s o
  have g := s.good
  have ev := s.env
  refine w.run σ H0 F H _ g ev fun v d F1 H1 s1 hv q => ?_
  obtain ⟨p, xs, ds, rfl, rfl, h1, h2, hz, Pi, hP, hQ⟩ := hv.asLst q
  have h1' := s1.good.sub _ _ h1
  refine ⟨p, rfl, ⟨xs, .of h1'⟩, fun L hL => ?_⟩
  rw [hown]
  have hpL : p ≠ L := ne_of_none h1' hL
  refine lc_list (K := X.K) (a := p) (xs := xs) (CompI X.K m F1 H1 L Pi) (comp_start (σ := σ) s1.good hL) (fun i H2 hi I => ?_) (fun i v H2 hi I => ?_) fun H2 I => ?_
  · obtain ⟨F', acc, es, s2, _⟩ := I
    exact .of (s2.good.sub _ _ (s2.fs _ _ h1))
  · obtain ⟨d, hd, iv⟩ := h2.getV hi
    have hlt : i < ds.length := (List.getElem?_eq_some_iff.mp hd).1
    exact comp_turn (ev.step s1) hL (s1.good.notm hL) (by omega) I (fun F' sm => iv.mono sm) (hP i d hd)
  · exact comp_end g s1 hL (by rw [← h2.length]; exact I) th hQ
theorem ws_setCompR (i : Nat) (t : Nat) (own : List (Str × Nat)) (hown : own.map (·.2) = [t]) (hc : X.calm = true) (hN : X.N.Nodup) (hy : X.N[i]? = some y) (hyl : X.env.scope.names.lookup y = some .local) (hsw : swapsWith (.ListComp elt [⟨tg, .Call (.Name "range" p2) [a] [] pr, [], 0⟩] scope pos) (some (.Name y py)) spos.line X.env = pure true)
    (ok : BlkOk X.N X.env.scope scope own) (hg : ∀ (s : Shared) (H : Hp) (C : Addr) (cl : List (Str × Addr)) (fp : List Addr), PG (X.blk s H scope (compEnvC scope cl C X.env) fp) tg (gName t))
    (hrg : Gl X "range") (hrm : X.mg "range" = none) (hst : starEach [a] X.env = [(false, eval a X.env)])
    (hs : ∀ x, foldedSetIterable (.Call (.Name "range" p2) [a] [] pr) X.env x = pure x)
    (w : WE X m env a fun x => asInt x fun n => (-1000000 ≤ n ∧ n ≤ 1000000) ∧ ∃ Pi : Nat → D → Prop, (∀ (i : Nat), (i : Int) < n → WB X m ((env.set t none).set t (some (.frz (.int i)))) scope elt (Pi i)) ∧ ∀ es : List D, es.length = n.toNat → (∀ (i : Nat) (e : D), es[i]? = some e → Pi i e) → R.nx (env.set i (some (.frz (.lst es))))) :
    WS X m env (.Assign [.Name y py] (.ListComp elt [⟨tg, .Call (.Name "range" p2) [a] [] pr, [], 0⟩] scope pos) spos) R := by
  refine ⟨fun σ F0 H0 Fl F H De W s o => tsc (ps_setLc (te := TBc X scope elt) hc hN hy hyl hsw (pi_range1 hrg hrm (pa_cons pe_can pa_nil hst) hst) ok hg (fun _ _ _ _ _ => pts_nil) (fun s H C cl fp => ⟨fun pins s2 σ2 H2 Q I h => h s H C cl fp pins s2 I⟩) hs) ?_⟩
  have th := thF (i := i) s o
  have g := s.good
  have ev := s.env
  refine w.run σ H0 F H _ g ev fun v d F1 H1 s1 hv q => ?_
  obtain ⟨n, rfl, rfl, hz, Pi, hP, hQ⟩ := hv.asInt q
  refine ⟨n, rfl, by omega, by omega, fun L hL => ?_⟩
  rw [hown]
  refine lc_range (CompI X.K m F1 H1 L Pi) (comp_start (σ := σ) s1.good hL) (fun i H2 hi I => ?_) fun H2 I => ?_
  · have hlt : (i : Int) < n := by omega
    have e0 : ((0 : Int) + (i : Int)) = (i : Int) := by omega
    rw [e0]
    exact comp_turn (ev.step s1) hL (s1.good.notm hL) (by omega) I (fun F' sm => .int _) (hP i hlt)
  · exact comp_end g s1 hL I th hQ
end
section
variable {X : Cx} {P : Program} {w : World} {K : PySem.W.Frag} {mg : Str → Option Value} {base : Heap} {N Vn L G B : List Str} {S : Scope} {k k2 n : Nat} {x y : Str} {i j j2 j3 : Nat}
variable {m : Option Mem} {env : Ev} {a b c e iter elt o tg : Expr} {es : List Expr} {Q : D → Prop} {pos p2 p3 p4 pr py spos : Pos} {R : DEnds} {rest body els : List Stmt} {ps : List Str}
theorem dl_setComp (t : Nat) (own : List (Str × Nat)) (Vc Gc : List Str) {scope : Scope} (dx : DX X P w K mg base N Vn L G S k) (h5 : At N i y) (hS : S.kind = .function) (hy : S.names.lookup y = some .local) (hln : (py.line == pos.line) = true) (hno : (scope.names.any fun (n, k) => n == y && (k == .local || k == .cell)) = false)
    (ok : blkC N S scope own = true) (hown : own.map (·.2) = [t]) (h1 : At N t x) (hx : LocOk scope x = true) (hv : ∀ x ∈ Vc, VisOk (relS scope S) x = true) (hg : ∀ x ∈ Gc, GlOk (relS scope S) x = true)
    (hs : ∀ y, foldedSetIterable iter X.env y = pure y)
    (hw : WE X m env iter fun x => asLst x fun ds => ds.length ≤ 1000000 ∧ ∃ Pi : Nat → D → Prop, (∀ (i : Nat) (d : D), ds[i]? = some d → ∀ X', DX X' P w K mg base N Vc [] Gc (relS scope S) k → X'.K = X.K → WE X' m ((env.set t none).set t (some (.frz d))) elt (Pi i)) ∧ ∀ es : List D, es.length = ds.length → (∀ (i : Nat) (e : D), es[i]? = some e → Pi i e) → R.nx (env.set i (some (.frz (.lst es))))) :
    WS X m env (.Assign [.Name y py] (.ListComp elt [⟨.Name x p2, iter, [], 0⟩] scope pos) spos) R := by
  refine ws_setComp i t own hown dx.calm dx.ndX (dx.n h5) (by rw [dx.S_]; exact hy) (sw_true (by rw [dx.S_]; exact hS) (by rw [dx.S_]; exact hy) hln hno) (by rw [dx.N_, dx.S_]; exact blkOk_by ok) (blk_pg dx h1 hx) hs (hw.mono fun d q => ?_)
  cases d <;> first | exact q.elim | skip
  obtain ⟨hz, Pi, h2, h3⟩ := q
  exact ⟨hz, Pi, fun i d hd => ⟨fun s H C cl fp => h2 i d hd _ (blk_dx dx hv hg s H C cl fp) rfl⟩, h3⟩
theorem dl_setCompR (t : Nat) (own : List (Str × Nat)) (Vc Gc : List Str) {scope : Scope} (dx : DX X P w K mg base N Vn L G S k) (bn : NoMg mg B) (h5 : At N i y) (hS : S.kind = .function) (hy : S.names.lookup y = some .local) (hln : (py.line == pos.line) = true) (hno : (scope.names.any fun (n, k) => n == y && (k == .local || k == .cell)) = false)
    (ok : blkC N S scope own = true) (hown : own.map (·.2) = [t]) (h1 : At N t x) (hx : LocOk scope x = true) (hv : ∀ x ∈ Vc, VisOk (relS scope S) x = true) (hg : ∀ x ∈ Gc, GlOk (relS scope S) x = true)
    (h3 : At G j "range") (h4 : At B j2 "range") (hst : starEach [a] X.env = [(false, eval a X.env)]) (hs : ∀ y, foldedSetIterable (.Call (.Name "range" p3) [a] [] pr) X.env y = pure y)
    (hw : WE X m env a fun x => asInt x fun n => (-1000000 ≤ n ∧ n ≤ 1000000) ∧ ∃ Pi : Nat → D → Prop, (∀ (i : Nat), (i : Int) < n → ∀ X', DX X' P w K mg base N Vc [] Gc (relS scope S) k → X'.K = X.K → WE X' m ((env.set t none).set t (some (.frz (.int i)))) elt (Pi i)) ∧ ∀ es : List D, es.length = n.toNat → (∀ (i : Nat) (e : D), es[i]? = some e → Pi i e) → R.nx (env.set i (some (.frz (.lst es))))) :
    WS X m env (.Assign [.Name y py] (.ListComp elt [⟨.Name x p2, .Call (.Name "range" p3) [a] [] pr, [], 0⟩] scope pos) spos) R := by
  refine ws_setCompR i t own hown dx.calm dx.ndX (dx.n h5) (by rw [dx.S_]; exact hy) (sw_true (by rw [dx.S_]; exact hS) (by rw [dx.S_]; exact hy) hln hno) (by rw [dx.N_, dx.S_]; exact blkOk_by ok) (blk_pg dx h1 hx) (dx.g h3).1 (dx.b bn h4) hst hs (hw.mono fun d q => ?_)
  cases d <;> first | exact q.elim | skip
  obtain ⟨hz, Pi, h2, h3⟩ := q
  exact ⟨hz, Pi, fun i hd => ⟨fun s H C cl fp => h2 i hd _ (blk_dx dx hv hg s H C cl fp) rfl⟩, h3⟩
end
end DL
set_option Elab.async false
set_option linter.all false
set_option maxRecDepth 100000
set_option autoImplicit false
/-! DL, part 14: an own list that is read as if it stayed, where the answer is flat. -/
namespace DL
open PySem L2
section
variable {K : PySem.W.Frag} {m : Option Mem} {F H F' H' : Hp} {H0 : Hp} {σ : L2.St} {env : Ev}
theorem Envs.any (h : Envs K m H0 F H σ env) : Envs K none H0 F H σ env := ⟨fun i s e => by
  obtain ⟨v, h1, h2⟩ := h.at_ i s e
  refine ⟨v, h1, ?_⟩
  cases s with
  | frz d => exact h2
  | lent d =>
    rcases h2 with h2 | ⟨R, hR, h2⟩
    · exact .inl h2
    · exact .inr ⟨R, hR.any, h2⟩
  | own p c =>
    obtain ⟨ho, e1, _, e3⟩ := h2
    exact ⟨ho, e1, (fun z => nomatch z), e3⟩, h.len, h.apart⟩
/-- what only read: the frozen part may be taken as it was -/
theorem Step.back {F1 : Hp} (g : Good K m F H) (s : Step K none F1 H F' H') : Step K m F H F H' := by
  have kp : ∀ a o, H a = some o → H' a = some o := fun a o h => s.keep a o (fun z => nomatch z) h
  refine ⟨Same.refl _, ⟨fun a o h => kp a o (g.sub a o h), fun c hc => ?_⟩, fun a h1 h2 => absurd h1 h2, fun a o _ h => kp a o h⟩
  obtain ⟨h1, h2⟩ := g.bag c hc
  obtain ⟨⟨o, ho⟩, o2, ho2⟩ := h2.some
  exact ⟨h1, h2.mono ((kp _ o ho).trans ho.symm) ((kp _ o2 ho2).trans ho2.symm)⟩
end
section
variable {X : Cx} {m : Option Mem} {env : Ev} {e : Expr}
theorem we_lend (i : Nat) {p : Addr} {ds : List D} {P : D → Prop} (he : env[i]? = some (some (.own p (.lst ds)))) (hf : ∀ d, P d → ∃ w, DL.flat d = some w) (h : WE X none (env.set i (some (.frz (.lst ds)))) e P) : WE X m env e P := by
  refine ⟨fun σ H0 F H k g ev t => ?_⟩
  obtain ⟨xs, hσ, hm, hF, h0, hH, ha, g', ev'⟩ := ev.freeze g he
  refine h.run σ H0 _ H k g'.any ev'.any fun v d F' H' s hv hP => ?_
  obtain ⟨w, hw⟩ := hf d hP
  obtain rfl := hv.flat hw
  exact t _ d F H' (s.back g) (is_flat hw) hP
theorem wt_lend (i : Nat) {p : Addr} {ds : List D} {P : Bool → Prop} (he : env[i]? = some (some (.own p (.lst ds)))) (h : WT X none (env.set i (some (.frz (.lst ds)))) e P) : WT X m env e P := by
  refine ⟨fun σ H0 F H k g ev t => ?_⟩
  obtain ⟨xs, hσ, hm, hF, h0, hH, ha, g', ev'⟩ := ev.freeze g he
  exact h.run σ H0 _ H k g'.any ev'.any fun b F' H' s hP => t b F H' (s.back g) hP
end
end DL
set_option Elab.async false
set_option linter.all false
set_option maxRecDepth 100000
set_option autoImplicit false
/-! DL, part 15: lists that a caller may still change; what is new may be changed. -/
namespace DL
open PySem L2
/-! ### lists of flat data -/
def Flats (ds : List D) : Prop := ∀ d ∈ ds, ∃ w, DL.flat d = some w
section
variable {K : PySem.W.Frag} {m : Option Mem} {F F' H F2 H' : Hp} {H0 : Hp} {σ : L2.St} {env : Ev} {xs ys : List V} {ds : List D}
theorem flats_ints {ns : List Int} : Flats (ns.map D.int) := fun d hd => by
  obtain ⟨n, _, rfl⟩ := List.mem_map.mp hd
  exact ⟨_, rfl⟩
theorem IsAll.flats : ∀ {xs : List V} {ds : List D}, IsAll K F xs ds → Flats ds → IsAll K F' xs ds
  | _, _, .nil, _ => .nil
  | _, _, .cons h t, f => by
    obtain ⟨w, hw⟩ := f _ (List.mem_cons_self ..)
    obtain rfl := h.flat hw
    exact .cons (is_flat hw) (t.flats fun d hd => f d (List.mem_cons_of_mem _ hd))
theorem flats_eq : ∀ {xs ys : List V} {ds : List D}, IsAll K F xs ds → IsAll K F' ys ds → Flats ds → xs = ys
  | _, _, _, .nil, h, _ => by cases h; rfl
  | _, _, _, .cons h t, h2, f => by
    cases h2 with
    | cons h' t' =>
      obtain ⟨w, hw⟩ := f _ (List.mem_cons_self ..)
      rw [h.flat hw, h'.flat hw, flats_eq t t' fun d hd => f d (List.mem_cons_of_mem _ hd)]
end
/-! ### an own list, read as if it stayed: a new list of flat data -/
section
variable {X : Cx} {m : Option Mem} {env : Ev} {e : Expr}
theorem wl_lend (i : Nat) {p : Addr} {ds : List D} {P : List D → Prop} (he : env[i]? = some (some (.own p (.lst ds)))) (hf : ∀ es, P es → Flats es) (h : WL X none (env.set i (some (.frz (.lst ds)))) e P) : WL X m env e P := by
  refine ⟨fun σ H0 F H k g ev t => ?_⟩
  obtain ⟨xs, hσ, hm, hF, h0, hH, ha, g', ev'⟩ := ev.freeze g he
  refine h.run σ H0 _ H k g'.any ev'.any fun p' xs' es F' H' h1 h2 s hH' ha' hP => ?_
  exact t p' xs' es F H' h1 (g.noF h1) (s.back g) hH' (ha'.flats (hf es hP)) hP
end
/-! ### a lent list -/
section
variable {K : PySem.W.Frag} {m : Option Mem} {F H F' H' : Hp} {H0 : Hp} {σ : L2.St} {env : Ev} {v : V} {d : D}
/-- two parts together -/
def both (F R : Hp) : Hp := fun a => match F a with | some o => some o | none => R a
theorem both_l {F R : Hp} : Same F (both F R) := fun a o e => by unfold both; rw [e]
theorem both_r {F R H : Hp} (h1 : Same F H) (h2 : Same R H) : Same R (both F R) := fun a o e => by
  unfold both
  cases e1 : F a with
  | some u =>
    have := h1 a u e1
    rw [h2 a o e] at this
    exact this.symm
  | none => exact e
theorem both_s {F R H : Hp} (h1 : Same F H) (h2 : Same R H) : Same (both F R) H := fun a o e => by
  unfold both at e
  cases e1 : F a with
  | some u => rw [e1] at e; cases e; exact h1 a _ e1
  | none => rw [e1] at e; exact h2 a o e
theorem LIs.lend (g : Good K m F H) (h : LIs K m H0 F H v d) : ∃ F1, Same F F1 ∧ Same F1 H ∧ Is K F1 v d ∧ ∀ q, F q = none → H0 q = none → F1 q = none := by
  rcases h with h | ⟨R, hR, h⟩
  · exact ⟨F, Same.refl _, g.sub, h, fun _ h _ => h⟩
  · have sR : Same R H := fun a o e => (hR a o e).1
    refine ⟨both F R, both_l, both_s g.sub sR, h.mono (both_r g.sub sR), fun q h1 h2 => ?_⟩
    unfold both
    rw [h1]
    cases e : R q with
    | none => rfl
    | some o =>
      obtain ⟨o', e'⟩ := (hR q o e).2.2
      rw [h2] at e'; cases e'
theorem Envs.lend {i : Nat} (g : Good K m F H) (h : Envs K m H0 F H σ env) (e : env[i]? = some (some (.lent d))) : ∃ F1, Good K none F1 H ∧ Envs K none H0 F1 H σ (env.set i (some (.frz d))) := by
  obtain ⟨v, hσ, hl⟩ := h.at_ i _ e
  obtain ⟨F1, s1, s2, hd, hn⟩ := LIs.lend g hl
  refine ⟨F1, ⟨s2, fun _ z => nomatch z⟩, ⟨fun j t ej => ?_, by rw [List.length_set]; exact h.len, fun j k ds es p hjk e1 e2 => ?_⟩⟩
  · rcases set_at ej with ⟨rfl, hl, ej⟩ | ⟨hij, ej⟩
    · cases ej
      exact ⟨v, hσ, hd⟩
    · obtain ⟨u, h1, h2⟩ := h.at_ j t ej
      refine ⟨u, h1, ?_⟩
      cases t with
      | frz d => exact Is.mono s1 h2
      | lent d =>
        rcases h2 with h2 | ⟨R, hR, h2⟩
        · exact .inl (Is.mono s1 h2)
        · exact .inr ⟨R, hR.any, h2⟩
      | own p c =>
        obtain ⟨ho, e1, hm, e3, e4, e5, e6⟩ := h2
        exact ⟨ho, e1, (fun z => nomatch z), hn p e3 e4, e4, e5, e6.mono s1⟩
  · rcases set_at e1 with ⟨_, _, e1⟩ | ⟨hj, e1⟩
    · cases e1
    rcases set_at e2 with ⟨_, _, e2⟩ | ⟨hk, e2⟩
    · cases e2
    exact h.apart j k ds es p hjk e1 e2
end
section
variable {X : Cx} {m : Option Mem} {env : Ev} {e : Expr} {d : D}
theorem we_lent (i : Nat) {P : D → Prop} (he : env[i]? = some (some (.lent d))) (hf : ∀ d, P d → ∃ w, DL.flat d = some w) (h : WE X none (env.set i (some (.frz d))) e P) : WE X m env e P := by
  refine ⟨fun σ H0 F H k g ev t => ?_⟩
  obtain ⟨F1, g', ev'⟩ := ev.lend g he
  refine h.run σ H0 _ H k g' ev' fun v d F' H' s hv hP => ?_
  obtain ⟨w, hw⟩ := hf d hP
  obtain rfl := hv.flat hw
  exact t _ d F H' (s.back g) (is_flat hw) hP
theorem wt_lent (i : Nat) {P : Bool → Prop} (he : env[i]? = some (some (.lent d))) (h : WT X none (env.set i (some (.frz d))) e P) : WT X m env e P := by
  refine ⟨fun σ H0 F H k g ev t => ?_⟩
  obtain ⟨F1, g', ev'⟩ := ev.lend g he
  exact h.run σ H0 _ H k g' ev' fun b F' H' s hP => t b F H' (s.back g) hP
theorem wl_lent (i : Nat) {P : List D → Prop} (he : env[i]? = some (some (.lent d))) (hf : ∀ es, P es → Flats es) (h : WL X none (env.set i (some (.frz d))) e P) : WL X m env e P := by
  refine ⟨fun σ H0 F H k g ev t => ?_⟩
  obtain ⟨F1, g', ev'⟩ := ev.lend g he
  refine h.run σ H0 _ H k g' ev' fun p' xs' es F' H' h1 h2 s hH' ha' hP => ?_
  exact t p' xs' es F H' h1 (g.noF h1) (s.back g) hH' (ha'.flats (hf es hP)) hP
end
/-! ### arguments that are lent -/
def ReOk (m : Option Mem) (H R : Hp) : Prop := ∀ a o, R a = some o → H a = some o ∧ ¬ Touch m a
def AIs (K : PySem.W.Frag) (m : Option Mem) (F H : Hp) (v : V) (d : D) : Prop := Is K F v d ∨ ∃ R, ReOk m H R ∧ Is K R v d
inductive AAll (K : PySem.W.Frag) (m : Option Mem) (F H : Hp) : List Bool → List V → List D → Prop
  | nil : AAll K m F H [] [] []
  | frz {v : V} {d : D} {bs : List Bool} {vs : List V} {ds : List D} : Is K F v d → AAll K m F H bs vs ds → AAll K m F H (false :: bs) (v :: vs) (d :: ds)
  | lent {v : V} {d : D} {bs : List Bool} {vs : List V} {ds : List D} : AIs K m F H v d → AAll K m F H bs vs ds → AAll K m F H (true :: bs) (v :: vs) (d :: ds)
section
variable {K : PySem.W.Frag} {m : Option Mem} {F H F' H' : Hp} {H0 : Hp} {σ : L2.St} {env : Ev} {v : V} {d : D} {bs : List Bool} {vs : List V} {ds : List D}
theorem AIs.step (h : AIs K m F H v d) (t : Step K m F H F' H') : AIs K m F' H' v d := by
  rcases h with h | ⟨R, hR, h⟩
  · exact .inl (h.mono t.fs)
  · exact .inr ⟨R, fun a o e => ⟨t.keep a o (hR a o e).2 (hR a o e).1, (hR a o e).2⟩, h⟩
theorem AIs.any (h : AIs K m F H v d) : AIs K none F H v d := by
  rcases h with h | ⟨R, hR, h⟩
  · exact .inl h
  · exact .inr ⟨R, fun a o e => ⟨(hR a o e).1, (fun z => nomatch z)⟩, h⟩
/-- what stays here may be handed on as lent: then what is made of it is new -/
theorem AIs.out (g : Good K m F H) (h : AIs K m F H v d) : AIs K m (fun _ => none) H v d := by
  rcases h with h | h
  · refine .inr ⟨F, fun a o e => ⟨g.sub a o e, fun z => ?_⟩, h⟩
    cases z with
    | b c => rw [(g.bag c rfl).1.1] at e; cases e
    | l c => rw [(g.bag c rfl).1.2] at e; cases e
  · exact .inr h
theorem AAll.any : ∀ {bs : List Bool} {vs : List V} {ds : List D}, AAll K m F H bs vs ds → AAll K none F H bs vs ds
  | _, _, _, .nil => .nil
  | _, _, _, .frz h t => .frz h t.any
  | _, _, _, .lent h t => .lent h.any t.any
theorem AAll.len : ∀ {bs : List Bool} {vs : List V} {ds : List D}, AAll K m F H bs vs ds → vs.length = bs.length ∧ ds.length = bs.length
  | _, _, _, .nil => ⟨rfl, rfl⟩
  | _, _, _, .frz _ t => ⟨congrArg (· + 1) t.len.1, congrArg (· + 1) t.len.2⟩
  | _, _, _, .lent _ t => ⟨congrArg (· + 1) t.len.1, congrArg (· + 1) t.len.2⟩
theorem LIs.ais (h : LIs K m H0 F H v d) : AIs K m F H v d := by
  rcases h with h | ⟨R, hR, h⟩
  · exact .inl h
  · exact .inr ⟨R, fun a o e => ⟨(hR a o e).1, (hR a o e).2.1⟩, h⟩
/-- all of them as data, in a larger part -/
theorem AAll.frozen (g : Good K none F H) : ∀ {bs : List Bool} {vs : List V} {ds : List D}, AAll K none F H bs vs ds → ∃ F1, Same F F1 ∧ Good K none F1 H ∧ IsAll K F1 vs ds
  | _, _, _, .nil => ⟨F, Same.refl _, g, .nil⟩
  | _, _, _, .frz h t => by
    obtain ⟨F1, s1, g1, h1⟩ := t.frozen g
    exact ⟨F1, s1, g1, .cons (h.mono s1) h1⟩
  | _, _, _, .lent h t => by
    obtain ⟨F1, s1, g1, h1⟩ := t.frozen g
    rcases h with h | ⟨R, hR, h⟩
    · exact ⟨F1, s1, g1, .cons (h.mono s1) h1⟩
    · have sR : Same R H := fun a o e => (hR a o e).1
      exact ⟨both F1 R, s1.trans both_l, ⟨both_s g1.sub sR, fun _ z => nomatch z⟩, .cons (h.mono (both_r g1.sub sR)) (h1.mono both_l)⟩
end
structure WAL (X : Cx) (m : Option Mem) (env : Ev) (bs : List Bool) (es : List Expr) (P : List D → Prop) : Prop where
  run : ∀ σ H0 F H k, Good X.K m F H → Envs X.K m H0 F H σ env → (∀ vs ds F' H', Step X.K m F H F' H' → AAll X.K m F' H' bs vs ds → P ds → k vs H') → TAc X es σ H k
section
variable {X : Cx} {m : Option Mem} {env : Ev} {e : Expr} {es : List Expr} {bs : List Bool} {P : List D → Prop} {x : Str} {p2 : Pos}
theorem wal_nil (h : P []) : WAL X m env [] [] P := ⟨fun σ H0 F H k g ev t => tac pa_nil (t [] [] F H (.refl g) .nil h)⟩
theorem wal_cons (h : WE X m env e fun d => WAL X m env bs es fun ds => P (d :: ds)) (hs : starEach (e :: es) X.env = (false, eval e X.env) :: starEach es X.env) : WAL X m env (false :: bs) (e :: es) P := by
  refine ⟨fun σ H0 F H k g ev t => tac (pa_cons pe_can pa_can hs) ?_⟩
  refine h.run σ H0 F H _ g ev fun v d F1 H1 s1 hv w1 => ?_
  refine w1.run σ H0 F1 H1 _ s1.good (ev.step s1) fun vs ds F2 H2 s2 hvs q => ?_
  exact t _ _ F2 H2 (s1.trans s2) (.frz (hv.mono s2.fs) hvs) q
theorem wal_up (h : WE X m env e fun d => WAL X m env bs es fun ds => P (d :: ds)) (hs : starEach (e :: es) X.env = (false, eval e X.env) :: starEach es X.env) : WAL X m env (true :: bs) (e :: es) P := by
  refine ⟨fun σ H0 F H k g ev t => tac (pa_cons pe_can pa_can hs) ?_⟩
  refine h.run σ H0 F H _ g ev fun v d F1 H1 s1 hv w1 => ?_
  refine w1.run σ H0 F1 H1 _ s1.good (ev.step s1) fun vs ds F2 H2 s2 hvs q => ?_
  exact t _ _ F2 H2 (s1.trans s2) (.lent (.inl (hv.mono s2.fs)) hvs) q
theorem wal_own (i : Nat) {p : Addr} {ds : List D} (hN : X.N[i]? = some x) (hv : Vis X.env.scope x) (hd : (x == ("__debug__" : Str)) = false) (hcd : (x == ("__classdict__" : Str)) = false) (he : env[i]? = some (some (.own p (.lst ds))))
    (hs : starEach (.Name x p2 :: es) X.env = (false, eval (.Name x p2) X.env) :: starEach es X.env) (h : WAL X m env bs es fun es => P (.lst ds :: es)) : WAL X m env (true :: bs) (.Name x p2 :: es) P := by
  refine ⟨fun σ H0 F H k g ev t => tac (pa_cons (pe_var hN hv hd hcd) pa_can hs) ?_⟩
  obtain ⟨v, hσ, ho, rfl, hm, hF, h0, hH, xs, rfl, ha⟩ := ev.at_ i _ he
  refine ⟨.ref p, hσ, ?_⟩
  refine h.run σ H0 F H _ g ev fun vs es F2 H2 s2 hvs q => ?_
  have hA : AIs X.K m F H (.ref p) (.lst ds) := by
    refine .inr ⟨upd F p (.lst xs), fun a o e => ?_, .lst upd_same (ha.mono (same_upd hF))⟩
    by_cases hap : a = p
    · subst hap; rw [upd_same] at e; cases e; exact ⟨hH, hm⟩
    · rw [upd_ne hap] at e
      refine ⟨g.sub a o e, fun z => ?_⟩
      cases z with
      | b c => rw [(g.bag c rfl).1.1] at e; cases e
      | l c => rw [(g.bag c rfl).1.2] at e; cases e
  exact t _ _ F2 H2 s2 (.lent (hA.step s2) hvs) q
theorem wal_lent (i : Nat) {d : D} (hN : X.N[i]? = some x) (hv : Vis X.env.scope x) (hd : (x == ("__debug__" : Str)) = false) (hcd : (x == ("__classdict__" : Str)) = false) (he : env[i]? = some (some (.lent d)))
    (hs : starEach (.Name x p2 :: es) X.env = (false, eval (.Name x p2) X.env) :: starEach es X.env) (h : WAL X m env bs es fun es => P (d :: es)) : WAL X m env (true :: bs) (.Name x p2 :: es) P := by
  refine ⟨fun σ H0 F H k g ev t => tac (pa_cons (pe_var hN hv hd hcd) pa_can hs) ?_⟩
  obtain ⟨v, hσ, hl⟩ := ev.at_ i _ he
  refine ⟨v, hσ, ?_⟩
  refine h.run σ H0 F H _ g ev fun vs es F2 H2 s2 hvs q => ?_
  exact t _ _ F2 H2 s2 (.lent (hl.ais.step s2) hvs) q
end
/-! ### what is new may be changed: an expression over flat slots -/
def flatEnv (env : Ev) : Ev := env.map fun o => match o with | some (.frz d) => if (DL.flat d).isSome then some (.frz d) else none | _ => none
section
variable {X : Cx} {m : Option Mem} {env : Ev} {e : Expr}
theorem flatEnv_at {i : Nat} {s : Slot} (h : (flatEnv env)[i]? = some (some s)) : ∃ d w, s = .frz d ∧ DL.flat d = some w ∧ env[i]? = some (some s) := by
  unfold flatEnv at h
  rw [List.getElem?_map] at h
  cases e : env[i]? with
  | none => rw [e] at h; cases h
  | some o =>
    rw [e] at h
    cases o with
    | none => cases h
    | some s' =>
      cases s' with
      | own p c => cases h
      | lent d => cases h
      | frz d =>
        cases e2 : DL.flat d with
        | none =>
          exfalso
          have : (if (DL.flat d).isSome = true then some (Slot.frz d) else none) = some s := Option.some.inj h
          rw [e2] at this
          cases this
        | some w =>
          have : (if (DL.flat d).isSome = true then some (Slot.frz d) else none) = some s := Option.some.inj h
          rw [e2] at this
          cases this
          exact ⟨d, w, rfl, e2, rfl⟩
theorem Envs.flatten {K : PySem.W.Frag} {F H H0 : Hp} {σ : L2.St} (h : Envs K m H0 F H σ env) : Envs K m H0 (fun _ => none) H σ (flatEnv env) := by
  refine ⟨fun i s e => ?_, by unfold flatEnv; rw [List.length_map]; exact h.len, fun i j ds es p _ e1 => ?_⟩
  · obtain ⟨d, w, rfl, hw, e2⟩ := flatEnv_at e
    obtain ⟨v, hσ, hv⟩ := h.at_ i _ e2
    obtain rfl := Is.flat hv hw
    exact ⟨_, hσ, is_flat hw⟩
  · obtain ⟨d, w, z, _⟩ := flatEnv_at e1
    cases z
theorem wl_thaw {P : List D → Prop} (h : WE X m (flatEnv env) e fun d => ∃ ds, d = .lst ds ∧ Flats ds ∧ P ds) : WL X m env e P := by
  refine ⟨fun σ H0 F H k g ev t => ?_⟩
  have g0 : Good X.K m (fun _ => none) H := ⟨(fun _ _ z => nomatch z), fun c hc => ⟨⟨rfl, rfl⟩, (g.bag c hc).2⟩⟩
  refine h.run σ H0 _ H k g0 ev.flatten fun v d F' H' s hv hP => ?_
  obtain ⟨ds, rfl, hfl, hP⟩ := hP
  cases hv with
  | lst h1 h2 =>
    rename_i p xs
    have hp : H p = none := s.new p rfl (by rw [h1]; exact fun z => nomatch z)
    have kp : ∀ a o, F a = some o → H' a = some o := fun a o z => by
      by_cases tz : Touch m a
      · cases tz with
        | b c => rw [(g.bag c rfl).1.1] at z; cases z
        | l c =>
          have e1 := g.sub _ _ z
          rw [(g.bag c rfl).2.list] at e1
          rw [← e1]
          exact (s.good.bag c rfl).2.list
      · exact s.keep a o tz (g.sub a o z)
    refine t p xs ds F H' hp (g.noF hp) ⟨Same.refl _, ⟨fun a o z => kp a o z, fun c hc => ⟨(g.bag c hc).1, (s.good.bag c hc).2⟩⟩, fun a h1 h2 => absurd h1 h2, s.keep⟩ (s.good.sub _ _ h1) (h2.flats hfl) hP
end
end DL
set_option Elab.async false
set_option linter.all false
set_option maxRecDepth 100000
set_option autoImplicit false
/-! DL, part 16: defs whose arguments are lent. -/
namespace DL
open PySem L2
def slotOf : Bool → D → Option Slot | true, d => some (.lent d) | false, d => some (.frz d)
def envOfL (N : List Str) (bs : List Bool) (ds : List D) : Ev := List.zipWith slotOf bs ds ++ List.replicate (N.length - ds.length) none
section
variable {K : PySem.W.Frag} {F H : Hp}
theorem envOfL_noOwn {N : List Str} {bs : List Bool} {ds : List D} {i : Nat} {p : Addr} {c : Cel} : (envOfL N bs ds)[i]? ≠ some (some (.own p c)) := fun e => by
  unfold envOfL at e
  rcases List.mem_append.mp (List.mem_of_getElem? e) with h | h
  · obtain ⟨j, hj, ej⟩ := List.mem_iff_getElem.mp h
    rw [List.getElem_zipWith] at ej
    cases hb : bs[j]'(by simp at hj; omega) <;> rw [hb] at ej <;> cases ej
  · have := List.eq_of_mem_replicate h
    cases this
theorem start_nil {N : List Str} {vs : List V} : (L2.start N vs) = vs.map some ++ List.replicate (N.length - vs.length) none := rfl
theorem aall_at : ∀ {bs : List Bool} {vs : List V} {ds : List D} {i : Nat} {s : Slot}, AAll K none F H bs vs ds → (List.zipWith slotOf bs ds)[i]? = some (some s) → ∃ v, vs[i]? = some v ∧ SlotOk K none H F H v s
  | _, _, _, i, s, .nil, e => by simp at e
  | _, _, _, 0, s, .frz h t, e => by cases e; exact ⟨_, rfl, h⟩
  | _, _, _, 0, s, .lent h t, e => by
    cases e
    refine ⟨_, rfl, ?_⟩
    rcases h with h | ⟨R, hR, h⟩
    · exact .inl h
    · exact .inr ⟨R, fun a o e => ⟨(hR a o e).1, (hR a o e).2, _, (hR a o e).1⟩, h⟩
  | _, _, _, i + 1, s, .frz h t, e => aall_at (i := i) t (by simpa using e)
  | _, _, _, i + 1, s, .lent h t, e => aall_at (i := i) t (by simpa using e)
theorem envs_startL {N : List Str} {bs : List Bool} {vs : List V} {ds : List D} (h : AAll K none F H bs vs ds) : Envs K none H F H (L2.start N vs) (envOfL N bs ds) := by
  have hz : (List.zipWith slotOf bs ds).length = vs.length := by rw [List.length_zipWith, h.len.1, h.len.2, Nat.min_self]
  refine ⟨fun i s e => ?_, ?_, fun i j es fs p _ e1 => absurd e1 envOfL_noOwn⟩
  · unfold envOfL at e
    rcases Nat.lt_or_ge i vs.length with hi | hi
    · rw [List.getElem?_append_left (by rw [hz]; exact hi)] at e
      obtain ⟨v, h1, h2⟩ := aall_at h e
      refine ⟨v, ?_, h2⟩
      unfold L2.start
      rw [List.getElem?_append_left (by simpa using hi), List.getElem?_map, h1]
      rfl
    · rw [List.getElem?_append_right (by rw [hz]; exact hi)] at e
      have := List.eq_of_mem_replicate (List.mem_of_getElem? e)
      cases this
  · unfold L2.start envOfL
    rw [List.length_append, List.length_append, hz, List.length_map, List.length_replicate, List.length_replicate, h.len.1, h.len.2]
end
/-- a def that may raise, whose arguments at the marked places are only lent -/
def spXL (K : PySem.W.Frag) (bs : List Bool) (A : List D → (D → Prop) → (Addr → List (Str × D) → Prop) → Prop) : Sp := fun vs H Q E => vs.length = bs.length ∧ ∃ F ds P PX, Good K none F H ∧ AAll K none F H bs vs ds ∧ A ds P PX ∧ Then K none F H P Q ∧
  ∀ C d fs F' H', Step K none F H F' H' → ExIs K H F' H' d fs → PX C fs → E (.ref C) d H'
def spIXL (K : PySem.W.Frag) (C : Addr) (bs : List Bool) (A : List D → (List (Str × D) → Prop) → (Addr → List (Str × D) → Prop) → Prop) : Sp := fun vs H Q E => vs.length = bs.length + 1 ∧ ∃ x ws F ds P PX, vs = .ref x :: ws ∧ Good K none F H ∧ F x = none ∧ (∃ dx, H x = some (.ins C dx [])) ∧ AAll K none F (fun a => if a = x then none else H a) bs ws ds ∧ A ds P PX ∧
  (∀ F' H' dx gs fs, Same F F' → Good K none F' H' → F' x = none → (∀ a, F a = none → F' a ≠ none → H a = none) → (∀ a o, a ≠ x → H a = some o → H' a = some o) → H' x = some (.ins C dx gs) → gs.map (·.1) = fs.map (·.1) → IsAll K F' (gs.map (·.2)) (fs.map (·.2)) → P fs → Q .non H') ∧
  ∀ C' d fs F' H', Same F F' → Good K none F' H' → F' x = none → (∀ a, F a = none → F' a ≠ none → H a = none) → (∀ a o, a ≠ x → H a = some o → H' a = some o) → ExIs K H F' H' d fs → PX C' fs → E (.ref C') d H'
section
variable {P : Program} {w : World} {K : PySem.W.Frag} {mg : Str → Option Value} {base : Heap}
theorem Fun.okXL {x qual : Str} {st : Stmt} {f : Addr} {fd : FuncData} {N Vn L G ps : List Str} {k : Nat} {bs : List Bool} {A : List D → (D → Prop) → (Addr → List (Str × D) → Prop) → Prop} (Fn : Fun K x qual st f fd) (S : FnScope N ps (defScope st)) (hps : ps.length = bs.length)
    (hv : ∀ x ∈ Vn, VisOk (defScope st) x = true) (hl : ∀ x ∈ L, LocOk (defScope st) x = true) (hg : ∀ x ∈ G, GlOk (defScope st) x = true)
    (hb : ∀ (X : Cx) (ds : List D) (Q : D → Prop) (QX : Addr → List (Str × D) → Prop), DX X P w K mg base N Vn L G (defScope st) k → ds.length = bs.length → A ds Q QX →
      WSs X none (envOfL N bs ds) (defBody st) { nx := fun _ => Q .non, rt := fun d _ => Q d, ex := fun C fs _ => QX C fs }) :
    FnOk P w K mg base (L2.CX P w) (k + 1) f fd ps (spXL K bs A) := by
  refine Fn.okX S (fun vs H Q E h => h.1.trans hps.symm) fun cdv Ar outer s H vs Q E hr h => ⟨_, pss_can, ?_⟩
  obtain ⟨hl', F, ds, Q', QX, g, ha, hA, t, tx⟩ := h
  refine (hb _ ds Q' QX (dx_of (x := x) S hv hl hg hr) ha.len.2 hA).run _ F H F F H _ (fun cls d _ H => E cls d H) ⟨.refl g, envs_startL ha, Same.refl _⟩ ?_
  exact ⟨fun σ env F' H' s' q => t .non .non F' H' s'.step .non q, fun v d σ env F' H' s' hv q => t v d F' H' s'.step hv q, fun _ _ _ _ _ z => z.elim, fun _ _ _ _ _ z => z.elim, takes_of rfl rfl rfl rfl, fun σ env F' H' C d fs s' hx q => tx C d fs F' H' s'.step hx q⟩
theorem Fun.okInitXL {x qual : Str} {st : Stmt} {f C : Addr} {fd : FuncData} {N Vn L G ps : List Str} {k : Nat} {bs : List Bool} {A : List D → (List (Str × D) → Prop) → (Addr → List (Str × D) → Prop) → Prop} (Fn : Fun K x qual st f fd) (S : FnScope N ps (defScope st)) (hps : ps.length = bs.length + 1)
    (hv : ∀ x ∈ Vn, VisOk (defScope st) x = true) (hl : ∀ x ∈ L, LocOk (defScope st) x = true) (hg : ∀ x ∈ G, GlOk (defScope st) x = true)
    (hb : ∀ (X : Cx) (q0 : Addr) (ds : List D) (Q : List (Str × D) → Prop) (QX : Addr → List (Str × D) → Prop), DX X P w K mg base N Vn L G (defScope st) k → ds.length = bs.length → A ds Q QX →
      WSs X none (some (.own q0 (.obj C [])) :: (List.zipWith slotOf bs ds ++ List.replicate (N.length - (bs.length + 1)) none)) (defBody st)
        { nx := fun env => ∃ fs, env[0]? = some (some (.own q0 (.obj C fs))) ∧ Q fs, rt := fun _ _ => False, ex := fun C' fs env => (∃ fs0, env[0]? = some (some (.own q0 (.obj C fs0)))) ∧ QX C' fs }) :
    FnOk P w K mg base (L2.CX P w) (k + 1) f fd ps (spIXL K C bs A) := by
  refine Fn.okX S (fun vs H Q E h => by rw [hps]; exact h.1) fun cdv Ar outer s H vs Q E hr h => ⟨_, pss_can, ?_⟩
  obtain ⟨hlen, b, ws, F, ds, Q', QX, rfl, g, hFb, ⟨db, hH⟩, ha, hA, t, tx⟩ := h
  have hd : ds.length = bs.length := ha.len.2
  let H0 : Hp := fun a => if a = b then none else H a
  have h0b : H0 b = none := if_pos rfl
  have h0 : ∀ a, a ≠ b → H0 a = H a := fun a h => if_neg h
  have e0 : Envs K none H0 F H0 (L2.start N (.ref b :: ws)) (envOfL N (false :: bs) (.ref b :: ds)) := envs_startL (.frz (.ref b) ha)
  have hst : (some (.own b (.obj C [])) :: (List.zipWith slotOf bs ds ++ List.replicate (N.length - (bs.length + 1)) none) : Ev) = (envOfL N (false :: bs) (.ref b :: ds)).set 0 (some (.own b (.obj C []))) := by
    unfold envOfL
    simp [hd]
  have start : Sta K none F H0 F F H (L2.start N (.ref b :: ws)) (some (.own b (.obj C [])) :: (List.zipWith slotOf bs ds ++ List.replicate (N.length - (bs.length + 1)) none)) := by
    rw [hst]
    refine ⟨⟨Same.refl _, g, fun a h1 h2 => absurd h1 h2, fun a o _ h => ?_⟩, ⟨fun j s e => ?_, by rw [List.length_set]; exact e0.len, fun j k ds' es p hjk e1 e2 => ?_⟩, Same.refl _⟩
    · by_cases hab : a = b
      · subst hab; rw [h0b] at h; cases h
      · rw [h0 a hab] at h; exact h
    · rcases set_at e with ⟨rfl, hl, e⟩ | ⟨hij, e⟩
      · cases e
        exact ⟨.ref b, rfl, _, rfl, (fun z => nomatch z), hFb, h0b, hH, db, [], rfl, rfl, .nil⟩
      · obtain ⟨v, h1, h2⟩ := e0.at_ j _ e
        refine ⟨v, h1, ?_⟩
        cases s with
        | frz d => exact h2
        | own p c => exact absurd e envOfL_noOwn
        | lent d =>
          rcases h2 with h2 | ⟨R, hR, h2⟩
          · exact .inl h2
          · refine .inr ⟨R, fun a o e => ?_, h2⟩
            obtain ⟨q1, q2, q3⟩ := hR a o e
            exact ⟨(h0 a fun z => by rw [z, h0b] at q1; cases q1).symm.trans q1, q2, q3⟩
    · rcases set_at e1 with ⟨rfl, hl, e⟩ | ⟨hij, e⟩
      · rcases set_at e2 with ⟨z, _, _⟩ | ⟨_, e⟩
        · exact hjk z
        · exact envOfL_noOwn e
      · exact envOfL_noOwn e
  have gone : ∀ {Fl F' H' : Hp} {σ : L2.St} {env : Ev} {fs : List (Str × D)}, Sta K none F H0 Fl F' H' σ env → env[0]? = some (some (.own b (.obj C fs))) → F' b = none ∧ (∀ a, F a = none → F' a ≠ none → H a = none) ∧ ∀ a o, a ≠ b → H a = some o → H' a = some o := fun {Fl F' H' σ env fs} s' he => by
    obtain ⟨v0, hσ0, ho, _, _, hFp, _⟩ := s'.env.at_ 0 _ he
    refine ⟨hFp, fun a h1 h2 => ?_, fun a o hab ho => s'.step.keep a o (fun z => nomatch z) (by rw [h0 a hab]; exact ho)⟩
    by_cases hab : a = b
    · subst hab; exact absurd hFp h2
    · rw [← h0 a hab]; exact s'.step.new a h1 h2
  refine (hb _ b ds Q' QX (dx_of (x := x) S hv hl hg hr) hd hA).run _ F H0 F F H _ (fun cls d _ H => E cls d H) start ?_
  refine ⟨fun σ env F' H' s' q => ?_, fun _ _ _ _ _ _ _ _ z => z.elim, fun _ _ _ _ _ z => z.elim, fun _ _ _ _ _ z => z.elim, takes_of rfl rfl rfl rfl, fun σ env F' H' C' d fs s' hx q => ?_⟩
  · obtain ⟨fs, he, q⟩ := q
    obtain ⟨h1, h2, h3⟩ := gone s' he
    obtain ⟨v0, hσ0, ho, _, _, _, _, hHp, da, gs, rfl, hn, hap⟩ := s'.env.at_ 0 _ he
    exact t F' H' da gs fs s'.step.fs s'.step.good h1 h2 h3 hHp hn hap q
  · obtain ⟨⟨fs0, he⟩, q⟩ := q
    obtain ⟨h1, h2, h3⟩ := gone s' he
    obtain ⟨v0, hσ0, ho, _, _, _, _, hHp, da, gs0, rfl, _⟩ := s'.env.at_ 0 _ he
    refine tx C' d fs F' H' s'.step.fs s'.step.good h1 h2 h3 (hx.imp fun a z ⟨gs, hg⟩ => ?_) q
    rw [← h0 a fun e => by rw [e, hHp] at hg; cases hg]
    exact z
end
section
variable {X : Cx} {P : Program} {w : World} {K : PySem.W.Frag} {mg : Str → Option Value} {base : Heap} {N Vn L G B : List Str} {S : Scope} {k k2 n : Nat} {x y : Str} {i j j2 : Nat} {bs : List Bool}
variable {m : Option Mem} {env : Ev} {a b c e iter elt o tg : Expr} {es : List Expr} {Q : D → Prop} {pos p2 p3 p4 pr : Pos} {R : DEnds} {rest body els : List Stmt} {ps : List Str} {C : Addr}
theorem dal_own (dx : DX X P w K mg base N Vn L G S k) (h1 : At N i x) (h2 : At Vn j x) {p : Addr} {ds : List D} {P : List D → Prop} (he : env[i]? = some (some (.own p (.lst ds)))) (hs : starEach (.Name x p2 :: es) X.env = (false, eval (.Name x p2) X.env) :: starEach es X.env) (h : WAL X m env bs es fun es => P (.lst ds :: es)) : WAL X m env (true :: bs) (.Name x p2 :: es) P :=
  let ⟨v, d1, d2⟩ := dx.v h2; wal_own i (dx.n h1) v d1 d2 he hs h
theorem dal_lent (dx : DX X P w K mg base N Vn L G S k) (h1 : At N i x) (h2 : At Vn j x) {d : D} {P : List D → Prop} (he : env[i]? = some (some (.lent d))) (hs : starEach (.Name x p2 :: es) X.env = (false, eval (.Name x p2) X.env) :: starEach es X.env) (h : WAL X m env bs es fun es => P (d :: es)) : WAL X m env (true :: bs) (.Name x p2 :: es) P :=
  let ⟨v, d1, d2⟩ := dx.v h2; wal_lent i (dx.n h1) v d1 d2 he hs h
theorem aall_step {K : PySem.W.Frag} {m : Option Mem} {F H F' H' : Hp} (t : Step K m F H F' H') : ∀ {bs : List Bool} {vs : List V} {ds : List D}, AAll K m F H bs vs ds → AAll K m F' H' bs vs ds
  | _, _, _, .nil => .nil
  | _, _, _, .frz h r => .frz (h.mono t.fs) (aall_step t r)
  | _, _, _, .lent h r => .lent (h.step t) (aall_step t r)
theorem aall_heap {K : PySem.W.Frag} {m : Option Mem} {F H H' : Hp} (t : ∀ a o, H a = some o → H' a = some o) : ∀ {bs : List Bool} {vs : List V} {ds : List D}, AAll K m F H bs vs ds → AAll K m F H' bs vs ds
  | _, _, _, .nil => .nil
  | _, _, _, .frz h r => .frz h (aall_heap t r)
  | _, _, _, .lent h r => .lent (h.imp id fun ⟨R, hR, h⟩ => ⟨R, fun a o e => ⟨t a o (hR a o e).1, (hR a o e).2⟩, h⟩) (aall_heap t r)
theorem call_XL {A : List D → (D → Prop) → (Addr → List (Str × D) → Prop) → Prop} {Pd : D → Prop} {σ : L2.St} {F0 H0 Fl F H F1 H1 : Hp} {De : Ends} {W : WX} {vs : List V} {ds : List D} {kk : VK} (s : Sta X.K m F0 H0 Fl F H σ env) (o : EndsOk X m F0 H0 Fl R De W) (s1 : Step X.K m F H F1 H1) (hvs : AAll X.K m F1 H1 bs vs ds)
    (hq : A ds Pd fun C fs => R.ex C fs env) (t : Then X.K m F1 H1 Pd kk) : spXL X.K bs A vs H1 kk (L2.WE W σ) := by
  refine ⟨hvs.len.1, F1, ds, Pd, _, s1.good.any, hvs.any, hq, fun v d F2 H2 s2 hv hP => t v d F2 H2 (s2.any s1.good) hv hP, fun C d fs F2 H2 s2 hx hP => ?_⟩
  exact o.ex σ env F2 H2 C d fs ((s.after s1).after (s2.any s1.good)) (hx.back (s.step.trans s1)) hP
theorem dl_setXL {A : List D → (D → Prop) → (Addr → List (Str × D) → Prop) → Prop} (dx : DX X P w K mg base N Vn L G S k) (F : FnAt P w K mg base x k2 ps (spXL K bs A)) (h3 : At G j x) (hk : k2 ≤ k) (he : starEach (e :: es) X.env = (false, eval e X.env) :: starEach es X.env) (hpl : (backTo p3 (starEach es X.env)).any (·.1) = false)
    (h1 : At N i y) (h2 : At L j2 y) (hs : swapsWith (.Call (.Name x p2) (e :: es) [] p3) (some (.Name y p4)) pos.line X.env = pure false) (hw : WAL X m env bs (e :: es) fun ds => A ds (fun d => R.nx (env.set i (some (.frz d)))) fun C fs => R.ex C fs env) :
    WS X m env (.Assign [.Name y p4] (.Call (.Name x p2) (e :: es) [] p3) pos) R := by
  obtain ⟨f, fd, Fn, hm, hkp, hb⟩ := F.ex
  obtain ⟨g1, g2, g3⟩ := dx.g h3
  obtain ⟨l1, l2⟩ := dx.l h2
  have hi := dx.n h1
  obtain rfl := dx.prog
  obtain rfl := dx.w_
  obtain rfl := dx.K_
  obtain rfl := dx.mg_
  obtain rfl := dx.base_
  refine ⟨fun σ F0 H0 Fl F' H De W s o => tsc (ps_set dx.ndX hi l1 (pe_callS Fn (dx.room.mono hk) g1 hm hkp hb (fun σ => passAt o.tk σ) pa_can g2 he hpl) hs l2) ?_⟩
  refine hw.run σ H0 F' H _ s.good s.env fun vs ds F1 H1 s1 hvs q => ?_
  exact call_XL (R := R) s o s1 hvs q fun v d F2 H2 s2 hv hP => o.nx _ _ F2 H2 ⟨(s.step.trans s1).trans s2, ((s.env.step s1).step s2).frz hv, (s.fl.trans s1.fs).trans s2.fs⟩ hP
/-- a statement f(e, ..) of a def over data, where arguments are lent: what it gives is dropped -/
theorem dl_exprF {A : List D → (D → Prop) → (Addr → List (Str × D) → Prop) → Prop} (dx : DX X P w K mg base N Vn L G S k) (F : FnAt P w K mg base x k2 ps (spX K n A)) (h3 : At G j x) (hk : k2 ≤ k) (he : starEach (e :: es) X.env = (false, eval e X.env) :: starEach es X.env) (hpl : (backTo p3 (starEach es X.env)).any (·.1) = false)
    (hs : swapsWith (.Call (.Name x p2) (e :: es) [] p3) none pos.line X.env = pure false) (hw : WAL X m env bs (e :: es) fun ds => ds.length = n ∧ A ds (fun _ => R.nx env) fun C fs => fs = [] ∧ R.ex C [] env) : WS X m env (.Expr (.Call (.Name x p2) (e :: es) [] p3) pos) R := by
  obtain ⟨f, fd, Fn, hm, hkp, hb⟩ := F.ex
  obtain ⟨g1, g2, g3⟩ := dx.g h3
  obtain rfl := dx.prog
  obtain rfl := dx.w_
  obtain rfl := dx.K_
  obtain rfl := dx.mg_
  obtain rfl := dx.base_
  refine ⟨fun σ F0 H0 Fl F' H De W s o => tsc (ps_expr (pe_callS Fn (dx.room.mono hk) g1 hm hkp hb (fun σ => passAt o.tk σ) pa_can g2 he hpl) hs) ?_⟩
  refine hw.run σ H0 F' H _ s.good s.env fun vs ds F1 H1 s1 hvs q => ?_
  obtain ⟨F2, s2, g2', ha⟩ := hvs.any.frozen s1.good.any
  refine ⟨hvs.len.1.trans (hvs.len.2.symm.trans q.1), F2, ds, _, _, g2', ha, q.2, fun v d F3 H3 s3 hv hP => ?_, fun C d fs F3 H3 s3 hx hP => ?_⟩
  · exact o.nx σ env F1 H3 ((s.after s1).after (s3.back s1.good)) hP
  · obtain ⟨rfl, hP⟩ := hP
    refine o.ex σ env F1 H3 C d [] ((s.after s1).after (s3.back s1.good)) ?_ hP
    cases d with
    | none => exact rfl
    | some a => exact absurd rfl hx.1
theorem make_XL {A : List D → (List (Str × D) → Prop) → (Addr → List (Str × D) → Prop) → Prop} {Pd : D → Prop} {σ : L2.St} {F0 H0 Fl F H F1 H1 : Hp} {De : Ends} {W : WX} {vs : List V} {ds : List D} {kk : VK} (s : Sta X.K m F0 H0 Fl F H σ env) (o : EndsOk X m F0 H0 Fl R De W) (s1 : Step X.K m F H F1 H1) (hvs : AAll X.K m F1 H1 bs vs ds)
    (hq : A ds (fun fs => Pd (.ins C fs)) fun C fs => R.ex C fs env) (t : Then X.K m F1 H1 Pd kk) {y dy : Addr} (hy : H1 y = none) (hdy : H1 dy = none) (ne : dy ≠ y) :
    spIXL X.K C bs A (.ref y :: vs) (upd (upd H1 dy (.own y)) y (.ins C dy [])) (fun v H2 => v = .non ∧ kk (.ref y) H2) (L2.WE W σ) := by
  have hy2 : upd H1 dy (.own y) y = none := by rw [upd_ne ne.symm]; exact hy
  have t1 := s1.good.fresh (o := .own y) hdy
  have t2 := t1.good.fresh (o := .ins C dy []) hy2
  have back : ∀ a, upd (upd H1 dy (.own y)) y (.ins C dy []) a = none → H1 a = none := fun a z => by
    by_cases ha : a = y
    · subst ha; exact hy
    · rw [upd_ne ha] at z
      by_cases hb : a = dy
      · subst hb; exact hdy
      · rw [upd_ne hb] at z; exact z
  have fwd : ∀ a o, H1 a = some o → upd (upd H1 dy (.own y)) y (.ins C dy []) a = some o := fun a o z => by
    rw [upd_ne (ne_of_none z hy), upd_ne (ne_of_none z hdy)]; exact z
  have stp : ∀ (F' H' : Hp), Same F1 F' → Good X.K none F' H' → (∀ a, F1 a = none → F' a ≠ none → upd (upd H1 dy (.own y)) y (.ins C dy []) a = none) → (∀ a o, a ≠ y → upd (upd H1 dy (.own y)) y (.ins C dy []) a = some o → H' a = some o) → Step X.K m F1 H1 F' H' := fun F' H' sm g' nw kp => by
    have kp2 : ∀ a o, H1 a = some o → H' a = some o := fun a o z => kp a o (ne_of_none z hy) (fwd a o z)
    refine ⟨sm, ⟨g'.sub, fun b hb => ?_⟩, fun a h1 h2 => back a (nw a h1 h2), fun a o _ z => kp2 a o z⟩
    obtain ⟨hF1, hB⟩ := s1.good.bag b hb
    obtain ⟨⟨u, hu⟩, u2, hu2⟩ := hB.some
    refine ⟨⟨?_, ?_⟩, hB.mono ((kp2 b.b u hu).trans hu.symm) ((kp2 b.l u2 hu2).trans hu2.symm)⟩
    · cases e : F' b.b with
      | none => rfl
      | some o => exact absurd (back b.b (nw b.b hF1.1 (by rw [e]; exact fun z => nomatch z))) (by rw [hu]; exact fun z => nomatch z)
    · cases e : F' b.l with
      | none => rfl
      | some o => exact absurd (back b.l (nw b.l hF1.2 (by rw [e]; exact fun z => nomatch z))) (by rw [hu2]; exact fun z => nomatch z)
  have hv2 : AAll X.K m F1 (fun a => if a = y then none else upd (upd H1 dy (.own y)) y (.ins C dy []) a) bs vs ds := aall_heap (fun a o z => by
    show (if a = y then none else upd (upd H1 dy (.own y)) y (.ins C dy []) a) = some o
    rw [if_neg (ne_of_none z hy)]
    exact fwd a o z) hvs
  refine ⟨by show vs.length + 1 = bs.length + 1; rw [hvs.len.1], y, vs, F1, ds, _, _, rfl, t2.good.any, s1.good.noF hy, ⟨dy, upd_same⟩, hv2.any, hq, fun F' H' dx' gs fs sm g' hF' nw kp hH' hn ha hP => ⟨rfl, ?_⟩, fun C' d fs F' H' sm g' hF' nw kp hx hP => ?_⟩
  · have st := stp F' H' sm g' nw kp
    have hm' : ¬ Touch m y := s1.good.notm hy
    refine t _ _ (upd F' y (.ins C dx' gs)) H' ⟨sm.trans (same_upd hF'), st.good.freeze hF' hm' hH', fun a h1 h2 => ?_, st.keep⟩ (.ins upd_same hn (ha.mono (same_upd hF'))) hP
    by_cases hay : a = y
    · subst hay; exact hy
    · rw [upd_ne hay] at h2; exact st.new a h1 h2
  · exact o.ex σ env F' H' C' d fs ((s.after s1).after (stp F' H' sm g' nw kp)) (hx.imp fun a z _ => (s.step.trans s1).none0 (back a z)) hP
theorem dl_retMakeXL {A : List D → (List (Str × D) → Prop) → (Addr → List (Str × D) → Prop) → Prop} (dx : DX X P w K mg base N Vn L G S k) (F : MkAt P w K mg base x C k2 ps (spIXL K C bs A)) (h3 : At G j x) (hk : k2 + 1 ≤ k) (he : starEach (e :: es) X.env = (false, eval e X.env) :: starEach es X.env) (hpl : (backTo p3 (starEach es X.env)).any (·.1) = false)
    (hw : WAL X m env bs (e :: es) fun ds => A ds (fun fs => R.rt (.ins C fs) env) fun C fs => R.ex C fs env) : WS X m env (.Return (some (.Call (.Name x p2) (e :: es) [] p3)) pos) R := by
  obtain ⟨f, fd, M, Fn, hb, hm⟩ := F.ex
  obtain ⟨g1, g2, g3⟩ := dx.g h3
  obtain rfl := dx.prog
  obtain rfl := dx.w_
  obtain rfl := dx.K_
  obtain rfl := dx.mg_
  obtain rfl := dx.base_
  refine ⟨fun σ F0 H0 Fl F' H De W s o => tsc (ps_ret (pe_makeS M Fn (dx.room.mono hk) g1 hm hb (fun σ => passAt o.tk σ) pa_can g2 he hpl)) ?_⟩
  refine hw.run σ H0 F' H _ s.good s.env fun vs ds F1 H1 s1 hvs q => ?_
  intro yy dy hy hdy ne
  exact make_XL (R := R) (Pd := fun d => R.rt d env) s o s1 hvs q (fun v d F2 H2 s2 hv hP => o.rt v d σ env F2 H2 ((s.after s1).after s2) hv hP) hy hdy ne
theorem dl_setMakeXL {A : List D → (List (Str × D) → Prop) → (Addr → List (Str × D) → Prop) → Prop} (dx : DX X P w K mg base N Vn L G S k) (F : MkAt P w K mg base x C k2 ps (spIXL K C bs A)) (h3 : At G j x) (hk : k2 + 1 ≤ k) (he : starEach (e :: es) X.env = (false, eval e X.env) :: starEach es X.env) (hpl : (backTo p3 (starEach es X.env)).any (·.1) = false)
    (h1 : At N i y) (h2 : At L j2 y) (hs : swapsWith (.Call (.Name x p2) (e :: es) [] p3) (some (.Name y p4)) pos.line X.env = pure false)
    (hw : WAL X m env bs (e :: es) fun ds => A ds (fun fs => R.nx (env.set i (some (.frz (.ins C fs))))) fun C fs => R.ex C fs env) : WS X m env (.Assign [.Name y p4] (.Call (.Name x p2) (e :: es) [] p3) pos) R := by
  obtain ⟨f, fd, M, Fn, hb, hm⟩ := F.ex
  obtain ⟨g1, g2, g3⟩ := dx.g h3
  obtain ⟨l1, l2⟩ := dx.l h2
  have hi := dx.n h1
  obtain rfl := dx.prog
  obtain rfl := dx.w_
  obtain rfl := dx.K_
  obtain rfl := dx.mg_
  obtain rfl := dx.base_
  refine ⟨fun σ F0 H0 Fl F' H De W s o => tsc (ps_set dx.ndX hi l1 (pe_makeS M Fn (dx.room.mono hk) g1 hm hb (fun σ => passAt o.tk σ) pa_can g2 he hpl) hs l2) ?_⟩
  refine hw.run σ H0 F' H _ s.good s.env fun vs ds F1 H1 s1 hvs q => ?_
  intro yy dy hy hdy ne
  exact make_XL (R := R) (Pd := fun d => R.nx (env.set i (some (.frz d)))) s o s1 hvs q (fun v d F2 H2 s2 hv hP => o.nx _ _ F2 H2 ⟨(s.step.trans s1).trans s2, ((s.env.step s1).step s2).frz hv, (s.fl.trans s1.fs).trans s2.fs⟩ hP) hy hdy ne
end
end DL
set_option Elab.async false
set_option linter.all false
set_option maxRecDepth 100000
set_option autoImplicit false
/-! DL, part 17: name = [.. for ..], a list that may be changed. -/
namespace DL
open PySem L2
section
variable {X : Cx} {m : Option Mem} {env : Ev} {a b c e elt iter tg : Expr} {es : List Expr} {pos p2 p3 pr py spos : Pos} {scope : Scope} {x y : Str} {t : Nat} {R : DEnds}
theorem thO {F0 H0 Fl F H : Hp} {σ : L2.St} {De : Ends} {W : WX} {i : Nat} (s : Sta X.K m F0 H0 Fl F H σ env) (o : EndsOk X m F0 H0 Fl R De W) : ThenL X.K m F H (fun es => ∀ p, R.nx (env.set i (some (.own p (.lst es))))) (fun x H1 => De.nx (σ.set i (some x)) H1) := fun p xs ds F' H' hp hF s1 hH ha q => by
  have h0 : H0 p = none := by
    cases e : H0 p with
    | none => rfl
    | some u => rw [s.step.keep p u (s.good.notm hp) e] at hp; cases hp
  exact o.nx _ _ F' H' ⟨s.step.trans s1, s.env.ownL s.good s1 hp h0 hF hH (.ofL ha), s.fl.trans s1.fs⟩ (q p)
theorem ws_setCompO (i : Nat) (t : Nat) (own : List (Str × Nat)) (hown : own.map (·.2) = [t]) (hc : X.calm = true) (hN : X.N.Nodup) (hy : X.N[i]? = some y) (hyl : X.env.scope.names.lookup y = some .local) (hsw : swapsWith (.ListComp elt [⟨tg, iter, [], 0⟩] scope pos) (some (.Name y py)) spos.line X.env = pure true)
    (ok : BlkOk X.N X.env.scope scope own) (hg : ∀ (s : Shared) (H : Hp) (C : Addr) (cl : List (Str × Addr)) (fp : List Addr), PG (X.blk s H scope (compEnvC scope cl C X.env) fp) tg (gName t))
    (hs : ∀ x, foldedSetIterable iter X.env x = pure x)
    (w : WE X m env iter fun x => asLst x fun ds => ds.length ≤ 1000000 ∧ ∃ Pi : Nat → D → Prop, (∀ (i : Nat) (d : D), ds[i]? = some d → WB X m ((env.set t none).set t (some (.frz d))) scope elt (Pi i)) ∧ ∀ es : List D, es.length = ds.length → (∀ (i : Nat) (e : D), es[i]? = some e → Pi i e) → ∀ p, R.nx (env.set i (some (.own p (.lst es))))) :
    WS X m env (.Assign [.Name y py] (.ListComp elt [⟨tg, iter, [], 0⟩] scope pos) spos) R := by
  refine ⟨fun σ F0 H0 Fl F H De W s o => tsc (ps_setLc (te := TBc X scope elt) hc hN hy hyl hsw (pi_list pe_can) ok hg (fun _ _ _ _ _ => pts_nil) (fun s H C cl fp => ⟨fun pins s2 σ2 H2 Q I h => h s H C cl fp pins s2 I⟩) hs) ?_⟩
  have th := thO (i := i) s o
  have g := s.good
  have ev := s.env
  refine w.run σ H0 F H _ g ev fun v d F1 H1 s1 hv q => ?_
  obtain ⟨p, xs, ds, rfl, rfl, h1, h2, hz, Pi, hP, hQ⟩ := hv.asLst q
  have h1' := s1.good.sub _ _ h1
  refine ⟨p, rfl, ⟨xs, .of h1'⟩, fun L hL => ?_⟩
  rw [hown]
  have hpL : p ≠ L := ne_of_none h1' hL
  refine lc_list (K := X.K) (a := p) (xs := xs) (CompI X.K m F1 H1 L Pi) (comp_start (σ := σ) s1.good hL) (fun i H2 hi I => ?_) (fun i v H2 hi I => ?_) fun H2 I => ?_
  · obtain ⟨F', acc, es, s2, _⟩ := I
    exact .of (s2.good.sub _ _ (s2.fs _ _ h1))
  · obtain ⟨d, hd, iv⟩ := h2.getV hi
    have hlt : i < ds.length := (List.getElem?_eq_some_iff.mp hd).1
    exact comp_turn (ev.step s1) hL (s1.good.notm hL) (by omega) I (fun F' sm => iv.mono sm) (hP i d hd)
  · exact comp_end g s1 hL (by rw [← h2.length]; exact I) th hQ
theorem ws_setCompRO (i : Nat) (t : Nat) (own : List (Str × Nat)) (hown : own.map (·.2) = [t]) (hc : X.calm = true) (hN : X.N.Nodup) (hy : X.N[i]? = some y) (hyl : X.env.scope.names.lookup y = some .local) (hsw : swapsWith (.ListComp elt [⟨tg, .Call (.Name "range" p2) [a] [] pr, [], 0⟩] scope pos) (some (.Name y py)) spos.line X.env = pure true)
    (ok : BlkOk X.N X.env.scope scope own) (hg : ∀ (s : Shared) (H : Hp) (C : Addr) (cl : List (Str × Addr)) (fp : List Addr), PG (X.blk s H scope (compEnvC scope cl C X.env) fp) tg (gName t))
    (hrg : Gl X "range") (hrm : X.mg "range" = none) (hst : starEach [a] X.env = [(false, eval a X.env)])
    (hs : ∀ x, foldedSetIterable (.Call (.Name "range" p2) [a] [] pr) X.env x = pure x)
    (w : WE X m env a fun x => asInt x fun n => (-1000000 ≤ n ∧ n ≤ 1000000) ∧ ∃ Pi : Nat → D → Prop, (∀ (i : Nat), (i : Int) < n → WB X m ((env.set t none).set t (some (.frz (.int i)))) scope elt (Pi i)) ∧ ∀ es : List D, es.length = n.toNat → (∀ (i : Nat) (e : D), es[i]? = some e → Pi i e) → ∀ p, R.nx (env.set i (some (.own p (.lst es))))) :
    WS X m env (.Assign [.Name y py] (.ListComp elt [⟨tg, .Call (.Name "range" p2) [a] [] pr, [], 0⟩] scope pos) spos) R := by
  refine ⟨fun σ F0 H0 Fl F H De W s o => tsc (ps_setLc (te := TBc X scope elt) hc hN hy hyl hsw (pi_range1 hrg hrm (pa_cons pe_can pa_nil hst) hst) ok hg (fun _ _ _ _ _ => pts_nil) (fun s H C cl fp => ⟨fun pins s2 σ2 H2 Q I h => h s H C cl fp pins s2 I⟩) hs) ?_⟩
  have th := thO (i := i) s o
  have g := s.good
  have ev := s.env
  refine w.run σ H0 F H _ g ev fun v d F1 H1 s1 hv q => ?_
  obtain ⟨n, rfl, rfl, hz, Pi, hP, hQ⟩ := hv.asInt q
  refine ⟨n, rfl, by omega, by omega, fun L hL => ?_⟩
  rw [hown]
  refine lc_range (CompI X.K m F1 H1 L Pi) (comp_start (σ := σ) s1.good hL) (fun i H2 hi I => ?_) fun H2 I => ?_
  · have hlt : (i : Int) < n := by omega
    have e0 : ((0 : Int) + (i : Int)) = (i : Int) := by omega
    rw [e0]
    exact comp_turn (ev.step s1) hL (s1.good.notm hL) (by omega) I (fun F' sm => .int _) (hP i hlt)
  · exact comp_end g s1 hL I th hQ
end
section
variable {X : Cx} {P : Program} {w : World} {K : PySem.W.Frag} {mg : Str → Option Value} {base : Heap} {N Vn L G B : List Str} {S : Scope} {k k2 n : Nat} {x y : Str} {i j j2 j3 : Nat}
variable {m : Option Mem} {env : Ev} {a b c e iter elt o tg : Expr} {es : List Expr} {Q : D → Prop} {pos p2 p3 p4 pr py spos : Pos} {R : DEnds} {rest body els : List Stmt} {ps : List Str}
theorem dl_setCompO (t : Nat) (own : List (Str × Nat)) (Vc Gc : List Str) {scope : Scope} (dx : DX X P w K mg base N Vn L G S k) (h5 : At N i y) (hS : S.kind = .function) (hy : S.names.lookup y = some .local) (hln : (py.line == pos.line) = true) (hno : (scope.names.any fun (n, k) => n == y && (k == .local || k == .cell)) = false)
    (ok : blkC N S scope own = true) (hown : own.map (·.2) = [t]) (h1 : At N t x) (hx : LocOk scope x = true) (hv : ∀ x ∈ Vc, VisOk (relS scope S) x = true) (hg : ∀ x ∈ Gc, GlOk (relS scope S) x = true)
    (hs : ∀ y, foldedSetIterable iter X.env y = pure y)
    (hw : WE X m env iter fun x => asLst x fun ds => ds.length ≤ 1000000 ∧ ∃ Pi : Nat → D → Prop, (∀ (i : Nat) (d : D), ds[i]? = some d → ∀ X', DX X' P w K mg base N Vc [] Gc (relS scope S) k → X'.K = X.K → WE X' m ((env.set t none).set t (some (.frz d))) elt (Pi i)) ∧ ∀ es : List D, es.length = ds.length → (∀ (i : Nat) (e : D), es[i]? = some e → Pi i e) → ∀ p, R.nx (env.set i (some (.own p (.lst es))))) :
    WS X m env (.Assign [.Name y py] (.ListComp elt [⟨.Name x p2, iter, [], 0⟩] scope pos) spos) R := by
  refine ws_setCompO i t own hown dx.calm dx.ndX (dx.n h5) (by rw [dx.S_]; exact hy) (sw_true (by rw [dx.S_]; exact hS) (by rw [dx.S_]; exact hy) hln hno) (by rw [dx.N_, dx.S_]; exact blkOk_by ok) (blk_pg dx h1 hx) hs (hw.mono fun d q => ?_)
  cases d <;> first | exact q.elim | skip
  obtain ⟨hz, Pi, h2, h3⟩ := q
  exact ⟨hz, Pi, fun i d hd => ⟨fun s H C cl fp => h2 i d hd _ (blk_dx dx hv hg s H C cl fp) rfl⟩, h3⟩
theorem dl_setCompRO (t : Nat) (own : List (Str × Nat)) (Vc Gc : List Str) {scope : Scope} (dx : DX X P w K mg base N Vn L G S k) (bn : NoMg mg B) (h5 : At N i y) (hS : S.kind = .function) (hy : S.names.lookup y = some .local) (hln : (py.line == pos.line) = true) (hno : (scope.names.any fun (n, k) => n == y && (k == .local || k == .cell)) = false)
    (ok : blkC N S scope own = true) (hown : own.map (·.2) = [t]) (h1 : At N t x) (hx : LocOk scope x = true) (hv : ∀ x ∈ Vc, VisOk (relS scope S) x = true) (hg : ∀ x ∈ Gc, GlOk (relS scope S) x = true)
    (h3 : At G j "range") (h4 : At B j2 "range") (hst : starEach [a] X.env = [(false, eval a X.env)]) (hs : ∀ y, foldedSetIterable (.Call (.Name "range" p3) [a] [] pr) X.env y = pure y)
    (hw : WE X m env a fun x => asInt x fun n => (-1000000 ≤ n ∧ n ≤ 1000000) ∧ ∃ Pi : Nat → D → Prop, (∀ (i : Nat), (i : Int) < n → ∀ X', DX X' P w K mg base N Vc [] Gc (relS scope S) k → X'.K = X.K → WE X' m ((env.set t none).set t (some (.frz (.int i)))) elt (Pi i)) ∧ ∀ es : List D, es.length = n.toNat → (∀ (i : Nat) (e : D), es[i]? = some e → Pi i e) → ∀ p, R.nx (env.set i (some (.own p (.lst es))))) :
    WS X m env (.Assign [.Name y py] (.ListComp elt [⟨.Name x p2, .Call (.Name "range" p3) [a] [] pr, [], 0⟩] scope pos) spos) R := by
  refine ws_setCompRO i t own hown dx.calm dx.ndX (dx.n h5) (by rw [dx.S_]; exact hy) (sw_true (by rw [dx.S_]; exact hS) (by rw [dx.S_]; exact hy) hln hno) (by rw [dx.N_, dx.S_]; exact blkOk_by ok) (blk_pg dx h1 hx) (dx.g h3).1 (dx.b bn h4) hst hs (hw.mono fun d q => ?_)
  cases d <;> first | exact q.elim | skip
  obtain ⟨hz, Pi, h2, h3⟩ := q
  exact ⟨hz, Pi, fun i hd => ⟨fun s H C cl fp => h2 i hd _ (blk_dx dx hv hg s H C cl fp) rfl⟩, h3⟩
end
end DL
set_option Elab.async false
set_option linter.all false
set_option maxRecDepth 100000
set_option autoImplicit false
/-! DL, part 18: errors with parts. -/
namespace DL
open PySem L2
/-! ### B.__init__(self, ..), B an own class over ValueError without an __init__ -/
structure BaseOk (K : PySem.W.Frag) (B : Addr) : Prop where
  ga : PySem.W.specialIn K (.ref B) "__getattribute__" = some (some (.builtin "type.__getattribute__"))
  ty : PySem.W.typeIn K (.ref B) = some (.type "type")
  rd : PySem.W.readsIn K B (.type "type") = true
  ini : PySem.W.findCls K (.ref B) (.type "type") "__init__" = some (.val (.builtin "ValueError.__init__"))
section
variable {X : Cx} {e : Expr} {es : List Expr} {ta : TA} {x : Str} {B : Addr} {p1 p2 pos : Pos}
theorem pe_base {pl : Sem Bool} (hg : Gl X x) (hm : X.mg x = some (.ref B)) (ok : BaseOk X.K B) (ha : PA X (e :: es) ta) (hdb : (x == ("__debug__" : Str)) = false)
    (hc : eval (.Call (.Attribute (.Name x p1) "__init__" p2) (e :: es) [] pos) X.env = (do
      let ov ← eval (.Name x p1) X.env
      standAt p2.atName
      let (f, first) ← holding [ov] (getMethod ov "__init__" pl)
      callWith pos f first (backTo pos (starEach (e :: es) X.env)) (backToKw pos (keywordEach [] X.env))))
    (he : starEach (e :: es) X.env = (false, eval e X.env) :: starEach es X.env) (hpl : (backTo pos (starEach es X.env)).any (·.1) = false) :
    PE X (.Call (.Attribute (.Name x p1) "__init__" p2) (e :: es) [] pos) (tVeI X.K ta) := by
  refine ⟨fun pins s σ H Q I0 q0 => PySem.W.methodCall_KW (ld_glob I0 hg hm ?_ hdb) hc⟩
  obtain ⟨m0, fr0⟩ := I0.fr
  refine PySem.W.method_of_cls fr0 I0.ok.mod.kin ok.ga (PySem.W.cls_val fr0 I0.ok.mod.kin ok.ty ok.rd ok.ini rfl ?_)
  show wpAny _ _ (callWith pos (.builtin "ValueError.__init__") [] (backTo pos (starEach (e :: es) X.env)) []) _ _ _
  refine PyProof.Rows.callWith_method1 (thn (ha.run pos pins _ σ H _ (I0.tok _) q0) ?_) he hpl
  rintro us s1 ⟨vs, H1, I1, r1, a, C, ws, rfl, hlw, T, ea, q⟩
  cases r1 with
  | @cons _ u1 _ ur r0 rr =>
    cases r0
    refine oinit_ok T I1 ea ?_ fun s2 J => ⟨.non, H1, J, rfl, q⟩
    have := Paired.length rr
    rw [sizeLine_eq]; omega
end
/-! ### the __init__ of an error with one part -/
def spE (K : PySem.W.Frag) (C : Addr) (fld : Str) : Sp := fun vs H Q _ => ∃ a y, vs = [.ref a, y] ∧ H a = some (exo a C none) ∧ ∀ d, H d = none → d ≠ a → Q .non (upd (upd H d (exd d [(fld, y)])) a (exo a C (some d)))
section
variable {P : Program} {w : World} {K : PySem.W.Frag} {mg : Str → Option Value} {base : Heap}
theorem Fun.okErr {qual par fld m : Str} {st : Stmt} {f C B : Addr} {fd : FuncData} {p1 p2 p3 p4 p5 p6 p7 p8 p9 p10 : Pos} {j : Nat} (Fn : Fun K "__init__" qual st f fd) (S : FnScope ["self", par] ["self", par] (defScope st))
    (hbody : defBody st = [.Expr (.Call (.Attribute (.Name "ClaimError" p1) "__init__" p2) [.Name "self" p3, .Constant (.str m) j p4] [] p5) p6, .Assign [.Attribute (.Name "self" p7) fld p8] (.Name par p9) p10])
    {pl : Env → Sem Bool} (hc : ∀ env : Env, eval (.Call (.Attribute (.Name "ClaimError" p1) "__init__" p2) [.Name "self" p3, .Constant (.str m) j p4] [] p5) env = (do
      let ov ← eval (.Name "ClaimError" p1) env
      standAt p2.atName
      let (f, first) ← holding [ov] (getMethod ov "__init__" (pl env))
      callWith p5 f first (backTo p5 (starEach [.Name "self" p3, .Constant (.str m) j p4] env)) (backToKw p5 (keywordEach [] env))))
    (hv1 : VisOk (defScope st) "self" = true) (hv2 : VisOk (defScope st) par = true) (hg : GlOk (defScope st) "ClaimError" = true) (hm : mg "ClaimError" = some (.ref B)) (ok : BaseOk K B) (T : OexC K C) (hno : PySem.W.findIn K (.ref C) fld = some none) (hne : (("self" : Str) == par) = false) :
    FnOk P w K mg base (L2.CX P w) 1 f fd ["self", par] (spE K C fld) := by
  refine Fn.okX S (fun vs H Q E h => by obtain ⟨a, y, rfl, _⟩ := h; rfl) fun cdv Ar outer s H vs Q E hr h => ?_
  have dx := dx_of (CX := L2.CX P w) (K := K) (mg := mg) (base := base) (P := P) (w := w) (f := f) (cdv := cdv) (Ar := Ar) (outer := outer) (s := s) (H := H) (E := E) (x := "__init__") (qual := qual) (Vn := ["self", par]) (L := []) (G := ["ClaimError"]) S
    (fun z hz => by rcases List.mem_cons.mp hz with rfl | hz; exact hv1; rw [List.mem_singleton.mp hz]; exact hv2) (fun _ hz => nomatch hz) (fun z hz => by rw [List.mem_singleton.mp hz]; exact hg) hr
  obtain ⟨v1, d1, e1⟩ := dx.v (x := "self") .z
  obtain ⟨v2, d2, e2⟩ := dx.v (x := par) (.s .z)
  obtain ⟨g1, g2, g3⟩ := dx.g (x := "ClaimError") .z
  refine ⟨_, by
    rw [hbody]
    exact pss_cons (ps_expr (pe_base g1 hm ok (pa_cons (pe_var (i := 0) rfl v1 d1 e1) (pa_cons pe_str pa_nil rfl) rfl) g2 (hc _) rfl rfl) rfl) (pss_one (ps_ost (pe_var (i := 0) rfl v1 d1 e1) (pe_var (i := 1) rfl v2 d2 e2) rfl)), ?_⟩
  obtain ⟨a, y, rfl, hH, q⟩ := h
  refine ⟨.ref a, rfl, a, C, [.str m], rfl, by simp, T, hH, y, rfl, .ref a, rfl, a, C, rfl, T, hno, .inl ⟨hH, fun d hd hda => q d hd hda⟩⟩
end
end DL
set_option Elab.async false
set_option linter.all false
set_option maxRecDepth 100000
set_option autoImplicit false
/-! DL, part 19: raising and catching errors with parts. -/
namespace DL
open PySem L2
/-- an own error class with one part, at its name -/
structure ErrAt1 (P : Program) (w : World) (K : PySem.W.Frag) (mg : Str → Option Value) (base : Heap) (x : Str) (C : Addr) (fld : Str) : Prop where
  ex : ∃ fI fd ps, FnOk P w K mg base (L2.CX P w) 1 fI fd ps (spE K C fld) ∧ Binds K fd ps [] ∧ PySem.W.findIn K (.ref C) "__init__" = some (some (.ref fI)) ∧ PySem.W.typeIn K (.ref fI) = some (.type "function")
  oex : OexC K C
  at_ : mg x = some (.ref C)
section
variable {X : Cx} {P : Program} {w : World} {K : PySem.W.Frag} {mg : Str → Option Value} {base : Heap} {N Vn L G B : List Str} {S : Scope} {k k2 n : Nat} {x y : Str} {i j j2 : Nat}
variable {m : Option Mem} {env : Ev} {a b c e iter elt o tg : Expr} {es : List Expr} {Q : D → Prop} {pos p2 p3 p4 pr : Pos} {R : DEnds} {rest body els : List Stmt} {ps : List Str} {C : Addr} {fld : Str}
theorem dl_raise1 (dx : DX X P w K mg base N Vn L G S k) (F : ErrAt1 P w K mg base x C fld) (h3 : At G j x) (hk : 2 ≤ k) (he : starEach [e] X.env = [(false, eval e X.env)]) (hpl : (backTo p3 (starEach [] X.env)).any (·.1) = false)
    (hw : WE X m env e fun d => R.ex C [(fld, d)] env) : WS X m env (.Raise (some (.Call (.Name x p2) [e] [] p3)) none pos) R := by
  obtain ⟨fI, fd, ps, Fn, hb, iC, tI⟩ := F.ex
  obtain ⟨g1, g2, g3⟩ := dx.g h3
  obtain rfl := dx.prog
  obtain rfl := dx.w_
  obtain rfl := dx.K_
  obtain rfl := dx.mg_
  obtain rfl := dx.base_
  refine ⟨fun σ F0 H0 Fl F' H De W s o => tsc (ps_raise dx.calm o.tk (pmk_oex F.oex iC tI Fn (dx.room.mono hk) hb .nil passL g1 F.at_ (pa_cons pe_can pa_nil he) g2 he hpl)) ?_⟩
  refine hw.run σ H0 F' H _ s.good s.env fun v d F1 H1 s1 hv q => ⟨by simp, fun ad had => ?_⟩
  refine ⟨ad, v, rfl, upd_same, fun dd hd hne => ⟨rfl, dd, [(fld, v)], upd_same, (upd_ne hne).trans upd_same, (upd_ne hne).symm.trans hd, ?_⟩⟩
  have hd1 : H1 dd = none := (upd_ne hne).symm.trans hd
  have e : upd (del (upd (upd (upd H1 ad (exo ad C none)) dd (exd dd [(fld, v)])) ad (exo ad C (some dd))) ad) dd (.xd [(fld, v)]) = upd H1 dd (.xd [(fld, v)]) := by
    funext z
    by_cases hz : z = dd
    · subst hz; rw [upd_same, upd_same]
    · rw [upd_ne hz, upd_ne hz]
      by_cases ha : z = ad
      · subst ha; rw [del_same, had]
      · rw [del_ne ha, upd_ne ha, upd_ne hz, upd_ne ha]
  rw [e]
  exact o.ex σ env F1 _ C (some dd) [(fld, d)] ((s.after s1).after (s1.good.fresh hd1)) ⟨by simp, (s.step.trans s1).none0 hd1, s1.good.noF hd1, [(fld, v)], upd_same, rfl, .cons hv .nil⟩ q
theorem dl_try1 {x1 n1 : Str} {c1 : Addr} {i1 j1 : Nat} {b1 : Stmt} {s1 : List Stmt} {np1 hp1 : Pos} (dx : DX X P w K mg base N Vn L G S k) (hst : X.stack = X.env :: X.outer) (hfr : X.env.frame = some X.env.locals)
    (g1 : At G j1 x1) (m1 : mg x1 = some (.ref c1)) (h1 : At N i1 n1) (k1 : X.env.kindOf n1 = some .local)
    (hw : ∀ X', DX X' P w K mg base N Vn L G S k → WSs X' m env body { R with ex := Caught X m K R [⟨c1, i1, b1 :: s1⟩] }) :
    WS X m env (.Try body [.ExceptHandler (some (.Name x1 np1)) (some n1) (b1 :: s1) hp1] [] [] pos) R := by
  have nm : ∀ {x : Str} {c : Addr} {j : Nat}, At G j x → mg x = some (.ref c) → Names X x (.ref c) := fun {x c j} hg hm => ⟨(dx.g hg).1, (dx.g hg).2.1, .inl (by rw [dx.mg_]; exact hm)⟩
  let TB : WX → TS := fun W De σ H => ∀ (pn : List (Addr × Obj)) (xe : Value → Shared → Prop), Takes (X.tr pn xe) W → PassesOwn (model X.prog X.w) X.A X.env xe → TSsc (X.tr pn xe) body De σ H
  let TSu : List Stmt → Addr → Value → Option Addr → TS := fun sts a cls d De σ H => ∀ oe pn, Zc cls d oe → (∃ vs, oe.data = .fields vs) → TSsc (X.suite a ((a, oe) :: pn)) sts De σ H
  refine ⟨fun σ F0 H0 Fl F H De W s o => tsc (ps_try_named (tb := TB) (l := [(.ref c1, i1, TSu (b1 :: s1))]) hst hfr dx.ndX o.tk
    (fun W' pn xe tk po => ⟨fun pins s' σ' H' D' I h => h pn xe tk po pins s' I⟩)
    (.cons (nm g1 m1) (dx.n h1) k1 (fun a oe cls d pn hz hf => ⟨fun pins s' σ' H' D' I h => h oe pn hz hf pins s' I⟩) .nil)) ?_⟩
  intro pn xe tk po
  have dx' : DX (X.tr pn xe) P w K mg base N Vn L G S k := ⟨dx.prog, dx.w_, dx.K_, dx.mg_, dx.base_, dx.N_, dx.nd, dx.S_, dx.vis, dx.loc, dx.fn, dx.gl, dx.calm, dx.room, po⟩
  refine (hw _ dx').run σ F0 H0 Fl F H De _ s ⟨o.nx, o.rt, o.bk, o.ct, tk, fun σ' env' F' H' C d fs s' hx q => ?_⟩
  -- a clause that fits
  have suite : ∀ {cc : Addr} {i : Nat} {sts : List Stmt}, (∀ X' ad d, Suite X' ad C d → X'.K = X.K → X'.mg = X.mg → X'.N = X.N → X'.env = X.env → ∀ x, ExD ad C d fs x → WSs X' m (env'.set i (some (.frz x))) sts { nx := fun ev => R.nx (ev.set i none), rt := R.rt }) →
      ∀ a, H' a = none → TSu sts a (.ref C) d (aEnds i De) (σ'.set i (some (.ref a))) H' := fun {cc i sts} h a ha => by
    have hK : ExIs X.K H0 F' H' d fs := hx
    obtain ⟨F2', x, hxd, st⟩ := suite_sta (a := a) (C := C) s' hK i
    intro oe pn' hz hf
    refine (h (X.suite a ((a, oe) :: pn')) a d ⟨X, oe, pn', rfl, hz, hf⟩ rfl rfl rfl rfl x hxd).run _ F0 H0 Fl F2' H' _ (fun _ _ _ _ => False) st ?_
    refine ⟨fun σ2 env2 F2 H2 s2 q2 => o.nx _ _ F2 H2 ⟨s2.step, s2.env.wipe, s2.fl⟩ q2, fun v d σ2 env2 F2 H2 s2 hv q2 => o.rt v d σ2 env2 F2 H2 ⟨s2.step, s2.env, s2.fl⟩ hv q2, fun _ _ _ _ _ z => z.elim, fun _ _ _ _ _ z => z.elim, takes0, fun _ _ _ _ _ _ _ _ _ z => z.elim⟩
  obtain ⟨r1, e1, y1, n1'⟩ := q
  refine ⟨r1, by rw [dx.K_]; exact e1, fun hb a ha => suite (cc := c1) (y1 hb) a ha, fun hb => ?_⟩
  exact o.ex σ' env' F' H' C d fs s' hx (n1' hb)
/-! ### within the suite -/
theorem lookup_is {K : PySem.W.Frag} {F : Hp} {f : Str} {d : D} : ∀ {gs : List (Str × V)} {fs : List (Str × D)}, gs.map (·.1) = fs.map (·.1) → IsAll K F (gs.map (·.2)) (fs.map (·.2)) → fs.lookup f = some d → ∃ u, gs.lookup f = some u ∧ Is K F u d
  | [], [], _, _, h => by cases h
  | [], _ :: _, h, _, _ => by cases h
  | _ :: _, [], h, _, _ => by cases h
  | (n, v) :: gs, (n', e) :: fs, hn, ha, hl => by
    rw [List.map_cons, List.map_cons] at hn
    injection hn with h1 h2
    simp only at h1
    subst h1
    cases ha with
    | cons i1 i2 =>
      rw [List.lookup_cons] at hl ⊢
      cases hb : (f == n) with
      | true =>
        rw [hb] at hl
        cases hl
        exact ⟨v, rfl, i1⟩
      | false =>
        rw [hb] at hl
        exact lookup_is h2 i2 hl
def rIsP (K : PySem.W.Frag) (D a dd : Addr) : List V → Hp → VK → Prop := fun xs H Q => ∃ (c : V) (cv : Value) (b : Bool), xs = [.ref a, c] ∧ (∃ gs, H dd = some (.xd gs)) ∧ (∀ u, RelV c u → u = cv) ∧ PySem.W.kitOne K (.ref D) cv = some b ∧ Q (.bl b) H
theorem call_isP {X : Cx} {a D dd : Addr} {oe : Obj} {pn : List (Addr × Obj)} (C : ExcC X.K D) (hz : Zc (.ref D) (some dd) oe) (hf : ∃ vs, oe.data = .fields vs) : CallR (X.suite a ((a, oe) :: pn)) (.builtin "isinstance") (rIsP X.K D a dd) := by
  intro pins s σ H xs us Q I r h
  obtain ⟨c, cv, b, rfl, ⟨gs, hg⟩, hcv, e, q⟩ := h
  cases r with
  | cons r1 r =>
    cases r with
    | cons r2 r =>
      cases r
      cases r1
      obtain rfl := hcv _ r2
      have hp := (I.pin (a, oe) (List.mem_append_left _ List.mem_cons_self)).1
      obtain ⟨fv, hfv⟩ := hf
      have ho : ObjOk X.prog X.w H s.heap dd (.xd gs) := I.hok dd _ hg
      obtain ⟨mA, hns, _⟩ := ho
      obtain ⟨od, hod, _⟩ := lookIn_ns hns
      have J : PySem.W.InstAt s.heap a oe D (some od) := ⟨hp, hz.1, by unfold PySem.W.notCls; rw [hfv] <;> rfl, by rw [hz.2]; exact hod⟩
      obtain ⟨cd, hcd, _⟩ := PySem.W.any_some C.hd
      exact PySem.W.kia_one (PySem.W.kitx_exc (by rw [hcd]; rfl) C.hg C.hk C.hs C.ha C.hn C.ht C.hm) I.kIn J e (fun z => nomatch z) fun tk => ⟨.bl b, H, I.kept (t' := tk) fun _ _ z => z, rfl, q⟩
theorem dy_isP {ad dd T : Addr} {fs : List (Str × D)} {r : Bool} (dy : DY X K mg N Vn G S) (bn : NoMg mg B) (su : Suite X ad C (some dd)) (hc : ExcC K C) (h1 : At N i x) (h2 : At Vn j x) (he : env[i]? = some (some (.frz (.exc ad C dd fs)))) (h3 : At G j2 "isinstance") {j3 j4 : Nat} (h4 : At B j3 "isinstance") (h5 : At G j4 y) (hy : mg y = some (.ref T))
    (hk : PySem.W.kitOne K (.ref C) (.ref T) = some r) (h : Q (.bl r)) : WE X m env (.Call (.Name "isinstance" p2) [.Name x p3, .Name y p4] [] pos) Q := by
  obtain ⟨X0, oe, pn, rfl, hz, hf⟩ := su.ex
  obtain ⟨g1, g2, g3⟩ := dy.g h3
  obtain ⟨y1, y2, y3⟩ := dy.g h5
  obtain rfl := dy.K_
  refine we_cb (call_isP hc hz hf) g1 (by rw [dy.mg_]; exact bn _ h4.mem) boot_isinstance g3 g2 rfl rfl (wa_cons (dy_name dy h1 h2 he (wa_cons (we_glob (d := .ref T) (v := .ref T) (u := .ref T) y1 (by rw [dy.mg_]; exact hy) rfl rfl y2 (wa_nil ⟨fun F H vs kk g hvs t => ?_⟩)) rfl)) rfl)
  cases hvs with
  | cons a1 r1 =>
    cases a1 with
    | exc hd hn ha =>
      cases r1 with
      | cons a2 r2 =>
        cases a2
        cases r2
        exact ⟨.ref T, .ref T, r, rfl, ⟨_, g.sub _ _ hd⟩, fun u ru => ru, hk, t.at g (.bl r) h⟩
theorem dy_part {ad dd : Addr} {fs : List (Str × D)} {d : D} (dy : DY X K mg N Vn G S) (su : Suite X ad C (some dd)) (hc : XfC K C) (hno : PySem.W.findIn K (.ref C) fld = some none) (h1 : At N i x) (h2 : At Vn j x) (he : env[i]? = some (some (.frz (.exc ad C dd fs)))) (hl : fs.lookup fld = some d)
    (hb : attributeBase (.Name x p3) fld X.env (eval (.Name x p3) X.env) = eval (.Name x p3) X.env) (h : Q d) : WE X m env (.Attribute (.Name x p3) fld pos) Q := by
  obtain ⟨X0, oe, pn, rfl, hz, hf⟩ := su.ex
  obtain rfl := dy.K_
  refine ⟨fun σ H0 F H k g ev t => tec (pe_xf hc hno hz hf pe_can hb) ?_⟩
  refine (dy_name (Q := fun d => d = .exc ad C dd fs) dy h1 h2 he rfl).run σ H0 F H _ g ev fun v d2 F1 H1 s1 hv e2 => ?_
  subst e2
  cases hv with
  | exc hd hn ha =>
    obtain ⟨u, hu, iu⟩ := lookup_is hn ha hl
    exact ⟨rfl, rfl, dd, _, u, rfl, s1.good.sub _ _ hd, hu, (t.after s1).at s1.good iu h⟩
end
end DL
set_option Elab.async false
set_option linter.all false
set_option maxRecDepth 100000
set_option autoImplicit false
/-! DL, part 20: calls within an expression of defs that might raise and don't; comprehensions over pairs. -/
namespace DL
open PySem L2
section
variable {X : Cx} {P : Program} {w : World} {K : PySem.W.Frag} {mg : Str → Option Value} {base : Heap} {N Vn L G B : List Str} {S : Scope} {k k2 n : Nat} {x : Str} {i j j2 : Nat}
variable {m : Option Mem} {env : Ev} {a b c e iter elt o tg : Expr} {es : List Expr} {Q : D → Prop} {pos p2 p3 p4 pr : Pos} {R : DEnds} {ps : List Str} {bs : List Bool} {C : Addr}
theorem dl_pureX {A : List D → (D → Prop) → (Addr → List (Str × D) → Prop) → Prop} (dx : DX X P w K mg base N Vn L G S k) (F : FnAt P w K mg base x k2 ps (spX K n A)) (h3 : At G j x) (hk : k2 ≤ k) (he : starEach (e :: es) X.env = (false, eval e X.env) :: starEach es X.env) (hpl : (backTo pos (starEach es X.env)).any (·.1) = false)
    (hw : WA X m env (e :: es) fun ds => ds.length = n ∧ A ds Q fun _ _ => False) : WE X m env (.Call (.Name x p2) (e :: es) [] pos) Q := by
  obtain ⟨f, fd, Fn, hm, hkp, hb⟩ := F.ex
  obtain ⟨g1, g2, g3⟩ := dx.g h3
  obtain rfl := dx.prog
  obtain rfl := dx.w_
  obtain rfl := dx.K_
  obtain rfl := dx.mg_
  obtain rfl := dx.base_
  refine ⟨fun σ H0 F H k g ev t => tec (pe_call Fn (dx.room.mono hk) g1 hm hkp hb .nil passL pa_can g2 he hpl) ?_⟩
  refine hw.run σ H0 F H _ g ev fun vs ds F1 H1 s1 hvs q => ?_
  rw [List.append_nil]
  exact ⟨by rw [hvs.length]; exact q.1, F1, ds, Q, _, s1.good.any, hvs, q.2, fun v d F2 H2 s2 hv hP => t v d F2 H2 (s1.trans (s2.any s1.good)) hv hP, fun _ _ _ _ _ _ _ z => z.elim⟩
theorem dl_makeXL {A : List D → (List (Str × D) → Prop) → (Addr → List (Str × D) → Prop) → Prop} (dx : DX X P w K mg base N Vn L G S k) (F : MkAt P w K mg base x C k2 ps (spIXL K C bs A)) (h3 : At G j x) (hk : k2 + 1 ≤ k) (he : starEach (e :: es) X.env = (false, eval e X.env) :: starEach es X.env) (hpl : (backTo p3 (starEach es X.env)).any (·.1) = false)
    (hw : WAL X m env bs (e :: es) fun ds => A ds (fun fs => R.rt (.ins C fs) env) fun C fs => R.ex C fs env) : WS X m env (.Return (some (.Call (.Name x p2) (e :: es) [] p3)) pos) R := dl_retMakeXL dx F h3 hk he hpl hw
/-! ### over pairs -/
theorem wipe2 {σ : L2.St} {t u : Nat} {v w : V} (h : t ≠ u) : (((((σ.set u none).set t none).set t (some v)).set u (some w)).set u none).set t none = (σ.set u none).set t none := by
  refine List.ext_getElem? fun i => ?_
  simp only [List.getElem?_set, List.length_set]
  by_cases h1 : u = i
  · simp [h1]
  · by_cases h2 : t = i
    · simp [h1, h2]
    · simp [h1, h2]
theorem comp_turn2 {scope : Scope} {t u : Nat} {σ : L2.St} {H0 F1 H1 : Hp} {L : Addr} {Pi : Nat → D → Prop} {i : Nat} {H : Hp} {v : V} {d1 d2 : D} (htu : t ≠ u) (ev : Envs X.K m H0 F1 H1 σ env) (hL : H1 L = none) (hm : ¬ Touch m L) (hi : i < 1000000) (I : CompI X.K m F1 H1 L Pi i H) (hv : ∀ F', Same F1 F' → Is X.K F' v (.tup [d1, d2]))
    (w : WB X m ((((env.set u none).set t none).set t (some (.frz d1))).set u (some (.frz d2))) scope elt (Pi i)) :
    gTup X.K 2 (gCons (gName t) (gCons (gName u) gNil)) v (wipe σ [t, u]) H fun σ2 H2 => wipe σ2 [t, u] = wipe σ [t, u] ∧ tYes σ2 H2 fun b H3 => if b = true then TBc X scope elt σ2 H3 fun y H4 => ∃ acc, H4 L = some (.lst acc) ∧ acc.length < sizeLine ∧ CompI X.K m F1 H1 L Pi (i + 1) (upd H4 L (.lst (acc ++ [y]))) else CompI X.K m F1 H1 L Pi (i + 1) H3 := by
  obtain ⟨F', acc, ds, s1, hF, hL2, ha, hl, hP⟩ := I
  have hv1 := hv F' s1.fs
  cases hv1 with
  | tup q1 q2 =>
    rename_i p xs
    cases q2 with
    | cons i1 r1 =>
      cases r1 with
      | cons i2 r2 =>
        cases r2
        rename_i v1 v2
        refine ⟨p, _, rfl, .of (s1.good.sub _ _ q1), rfl, v1, [v2], rfl, v2, [], rfl, rfl, wipe2 htu, ?_⟩
        unfold tYes
        dsimp only
        rw [if_pos rfl]
        intro s H0' C cl fp
        have ev2 : Envs X.K m H0 F' H ((((σ.set u none).set t none).set t (some v1)).set u (some v2)) ((((env.set u none).set t none).set t (some (.frz d1))).set u (some (.frz d2))) := ((((ev.step s1).wipe).wipe).frz i1).frz i2
        refine (w.at_ s H0' C cl fp).run _ H0 F' H _ s1.good ev2 fun y dy F2 H2 s2 hy hPy => ?_
        have hL3 : H2 L = some (.lst acc) := s2.keep L _ hm hL2
        have hF2 := s2.noF hF ⟨_, hL2⟩
        refine ⟨acc, hL3, ?_, F2, acc ++ [y], ds ++ [dy], (s1.trans s2).mut hF2 hm hL, hF2, upd_same, (ha.mono s2.fs).append (.cons hy .nil), ?_, fun j e he => ?_⟩
        · rw [ha.length, hl, sizeLine_eq]; omega
        · rw [List.length_append, hl]; rfl
        · rcases Nat.lt_or_ge j ds.length with hj | hj
          · rw [List.getElem?_append_left hj] at he
            exact hP j e he
          · rw [List.getElem?_append_right hj] at he
            have e0 : j - ds.length = 0 := by
              rcases Nat.eq_zero_or_pos (j - ds.length) with z | z
              · exact z
              · rw [List.getElem?_eq_none (by simp; omega)] at he; cases he
            rw [e0] at he
            have : j = i := by omega
            subst this
            cases he
            exact hPy
theorem dl_comp2 {x1 x2 : Str} {pt q1 q2 : Pos} {k0 : Nat} (t u : Nat) (own : List (Str × Nat)) (Vc Gc : List Str) {scope : Scope} (dx : DX X P w K mg base N Vn L G S k) (ok : blkC N S scope own = true) (hown : own.map (·.2) = [t, u]) (htu : t ≠ u) (h1 : At N t x1) (h2 : At N u x2) (hx1 : LocOk scope x1 = true) (hx2 : LocOk scope x2 = true) (hv : ∀ x ∈ Vc, VisOk (relS scope S) x = true) (hg : ∀ x ∈ Gc, GlOk (relS scope S) x = true)
    (hs : ∀ y, foldedSetIterable iter X.env y = pure y) {Q : List D → Prop}
    (hw : WE X m env iter fun x => asLst x fun ds => ds.length ≤ 1000000 ∧ ∃ Pi : Nat → D → Prop, (∀ (i : Nat) (d : D), ds[i]? = some d → ∃ d1 d2, d = .tup [d1, d2] ∧ ∀ X', DX X' P w K mg base N Vc [] Gc (relS scope S) k → X'.K = X.K → WE X' m ((((env.set u none).set t none).set t (some (.frz d1))).set u (some (.frz d2))) elt (Pi i)) ∧ ∀ es : List D, es.length = ds.length → (∀ (i : Nat) (e : D), es[i]? = some e → Pi i e) → Q es) :
    WL X m env (.ListComp elt [⟨.Tuple [.Name x1 q1, .Name x2 q2] k0 pt, iter, [], 0⟩] scope pos) Q := by
  have okb : BlkOk X.N X.env.scope scope own := by rw [dx.N_, dx.S_]; exact blkOk_by ok
  have pg : ∀ (s : Shared) (H : Hp) (C : Addr) (cl : List (Str × Addr)) (fp : List Addr), PG (X.blk s H scope (compEnvC scope cl C X.env) fp) (.Tuple [.Name x1 q1, .Name x2 q2] k0 pt) (gTup X.K 2 (gCons (gName t) (gCons (gName u) gNil))) := fun s H C cl fp =>
    pg_tup (X := X.blk s H scope (compEnvC scope cl C X.env) fp) dx.calm (pgs_cons (blk_pg dx h1 hx1 s H C cl fp) (pgs_cons (blk_pg dx h2 hx2 s H C cl fp) pgs_nil)) rfl rfl
  refine ⟨fun σ H0 F H k g ev th => tec (pe_lc (te := TBc X scope elt) dx.calm dx.ndX (pi_list pe_can) okb pg (fun _ _ _ _ _ => pts_nil) (fun s H C cl fp => ⟨fun pins s2 σ2 H2 Q I h => h s H C cl fp pins s2 I⟩) hs) ?_⟩
  refine hw.run σ H0 F H _ g ev fun v d F1 H1 s1 hv' q => ?_
  obtain ⟨p, xs, ds, rfl, rfl, g1, g2, hz, Pi, hP, hQ⟩ := hv'.asLst q
  have g1' := s1.good.sub _ _ g1
  refine ⟨p, rfl, ⟨xs, .of g1'⟩, fun L hL => ?_⟩
  rw [hown]
  refine lc_list (K := X.K) (a := p) (xs := xs) (CompI X.K m F1 H1 L Pi) (comp_start (σ := σ) s1.good hL) (fun i H2 hi I => ?_) (fun i v H2 hi I => ?_) fun H2 I => ?_
  · obtain ⟨F', acc, es, s2, _⟩ := I
    exact .of (s2.good.sub _ _ (s2.fs _ _ g1))
  · obtain ⟨d, hd, iv⟩ := g2.getV hi
    have hlt : i < ds.length := (List.getElem?_eq_some_iff.mp hd).1
    obtain ⟨d1, d2, rfl, hE⟩ := hP i d hd
    exact comp_turn2 htu (ev.step s1) hL (s1.good.notm hL) (by omega) I (fun F' sm => iv.mono sm) ⟨fun s H C cl fp => hE _ (blk_dx dx hv hg s H C cl fp) rfl⟩
  · exact comp_end g s1 hL (by rw [← g2.length]; exact I) th hQ
end
end DL
set_option Elab.async false
set_option linter.all false
set_option maxRecDepth 100000
set_option autoImplicit false
/-! DL, part 21: for x in range(a, b). -/
namespace DL
open PySem L2
section
variable {X : Cx} {P : Program} {w : World} {K : PySem.W.Frag} {mg : Str → Option Value} {base : Heap} {N Vn L G B : List Str} {S : Scope} {k k2 n : Nat} {x : Str} {i j j2 : Nat}
variable {m : Option Mem} {env : Ev} {a b c e iter elt o tg : Expr} {es : List Expr} {Q : D → Prop} {pos p2 p3 p4 pr : Pos} {R : DEnds} {ps : List Str} {body : List Stmt}
theorem dl_forR2 (t : Nat) (dx : DX X P w K mg base N Vn L G S k) (bn : NoMg mg B) (h1 : At N t x) (h2 : At L j x) {j3 j4 : Nat} (h3 : At G j3 "range") (h4 : At B j4 "range") (hst : starEach [a, b] X.env = [(false, eval a X.env), (false, eval b X.env)]) (hst2 : starEach [b] X.env = [(false, eval b X.env)])
    (hs : ∀ y, foldedSetIterable (.Call (.Name "range" p3) [a, b] [] pr) X.env y = pure y)
    (h : WE X m env a fun d => WE X m env b fun d2 => asInt d fun lo => asInt d2 fun hi => (-1000000 ≤ lo ∧ lo ≤ 1000000 ∧ -1000000 ≤ hi ∧ hi ≤ 1000000) ∧ ∃ I : Nat → Ev → Prop, I 0 env ∧
      (∀ (i : Nat) (env' : Ev), lo + (i : Int) < hi → I i env' → WSs X m (env'.set t (some (.frz (.int (lo + i))))) body { nx := I (i + 1), ct := I (i + 1), bk := R.nx, rt := R.rt, ex := R.ex }) ∧ ∀ env', I (hi - lo).toNat env' → R.nx env') :
    WS X m env (.For (.Name x p2) (.Call (.Name "range" p3) [a, b] [] pr) body [] pos) R := by
  obtain ⟨l1, l2⟩ := dx.l h2
  refine ⟨fun σ F0 H0 Fl F H De W s o => tsc (ps_for dx.pass dx.calm (pi_range2 (dx.g h3).1 (dx.b bn h4) (pa_cons pe_can (pa_cons pe_can pa_nil hst2) (by rw [hst, hst2])) hst hst2) (pg_name dx.ndX (dx.n h1) l1 l2) pss_can hs) ?_⟩
  refine h.run σ H0 F H _ s.good s.env fun v d F1 H1 s1 hv w1 => ?_
  refine w1.run σ H0 F1 H1 _ s1.good (s.env.step s1) fun v2 d2 F2 H2 s2 hv2 q => ?_
  obtain ⟨lo, rfl, rfl, q⟩ := hv.asInt q
  obtain ⟨hi, rfl, rfl, ⟨z1, z2, z3, z4⟩, I, i0, turn, fin⟩ := hv2.asInt q
  have st := s1.trans s2
  refine ⟨lo, hi, rfl, ⟨by omega, by omega, by omega, by omega⟩, ?_⟩
  refine for_range (fun i σ H => ∃ F' env', Sta X.K m F0 H0 F2 F' H σ env' ∧ I i env') ⟨F2, env, ⟨s.step.trans st, s.env.step st, Same.refl _⟩, i0⟩ (fun i σ H hlt ⟨F', env', s', hI⟩ => ?_) fun σ H ⟨F', env', s', hI⟩ => ?_
  · refine (turn i env' (by omega) hI).run _ F0 H0 F2 F' H _ W ⟨s'.step, s'.env.frz (.int _), s'.fl⟩ ?_
    exact ⟨fun σ env F3 H3 s3 w => ⟨F3, env, s3, w⟩, fun v d σ env F3 H3 s3 => o.rt v d σ env F3 H3 (s3.floor (s.fl.trans st.fs)), fun σ env F3 H3 s3 w => o.nx σ env F3 H3 (s3.floor (s.fl.trans st.fs)) w, fun σ env F3 H3 s3 w => ⟨F3, env, s3, w⟩, o.tk, fun σ env F3 H3 C d fs s3 => o.ex σ env F3 H3 C d fs (s3.floor (s.fl.trans st.fs))⟩
  · exact o.nx σ env' F' H (s'.floor (s.fl.trans st.fs)) (fin env' hI)
end
end DL
set_option Elab.async false
set_option linter.all false
set_option maxRecDepth 100000
set_option autoImplicit false
set_option maxHeartbeats 1000000
/-! DL, part 22: errors as values; a list of the frame's own that is popped. -/
namespace DL
open PySem L2 PySem.Spec PyProof.Rows
section
variable {X : Cx} {C : Addr} {x : Str} {p pos : Pos} {e : Expr} {es : List Expr} {ta : TA}
/-- C(), an error without parts, as a value -/
theorem pe_bareV {bmB : List Value} {B newId initId : String} (F : ExcBaseFacts B newId initId bmB) (q : PySem.W.excIn X.K C bmB newId = true) (gC : X.mg x = some (.ref C)) (kC : PySem.W.keepIn X.K (.ref C) = true) (hg : Gl X x) (hdb : (x == ("__debug__" : Str)) = false) :
    PE X (.Call (.Name x p) [] [] pos) (fun _ H Q => ∀ a, H a = none → Q (.ref a) (upd H a (ExO (.ref C) a))) := by
  refine ⟨fun pins s σ H Q I h => ?_⟩
  refine wpAny_Call_Name_kw (ld_glob I hg gC ?_ hdb)
  refine PySem.W.callWith_K0 I.kIn kC ?_
  show wpAny _ _ (call (.ref C) []) _ _ _
  obtain ⟨bm, ns, nm, qn, bs, hdct, sn, sub, ab, col, dd, k0, k1, k2, k3, k5, mN, hC, hN, hni, T⟩ := exc_obj I.kIn q
  refine wpAny_call_exc_subT F T hC hN hni (fun hx ex hm => ?_) (Nat.zero_le _)
  have hn : H ex = none := I.hok.gone hm.new
  obtain ⟨t, ht, _, _⟩ := hm.there
  exact ⟨.ref ex, upd H ex (ExO (.ref C) ex), I.laidN hm.keeps hm.new hn (exO_ok ht ⟨rfl, rfl⟩ rfl rfl rfl (show 4 < 6 by decide)), rfl, h ex hn⟩
/-- C(e, ..), C's own __init__ keeping sp, as a value -/
theorem pe_oexV {CX : CXT} {fI : Addr} {k : Nat} {fd : FuncData} {ps : List Str} {sp : Sp} {ds : List Value} {dvs : List V} (T : OexC X.K C) (iC : PySem.W.findIn X.K (.ref C) "__init__" = some (some (.ref fI))) (tI : PySem.W.typeIn X.K (.ref fI) = some (.type "function"))
    (F1 : FnOk X.prog X.w X.K X.mg X.base CX k fI fd ps sp) (hr : Room (k + 1) X.A) (hb : Binds X.K fd ps ds) (hd : Vals dvs ds) (hx : Passes CX X (fun _ _ _ => False)) (hg : Gl X x) (hm : X.mg x = some (.ref C)) (ha : PA X (e :: es) ta)
    (hdb : (x == ("__debug__" : Str)) = false) (he : starEach (e :: es) X.env = (false, eval e X.env) :: starEach es X.env) (hpl : (backTo pos (starEach es X.env)).any (·.1) = false) :
    PE X (.Call (.Name x p) (e :: es) [] pos) (fun σ H Q => ta σ H fun vs H1 => vs.length ≤ 1000 ∧ ∀ a, H1 a = none → sp (.ref a :: (vs ++ dvs)) (upd H1 a (exo a C none)) (fun v H2 => v = .non ∧ Q (.ref a) H2) (fun _ _ _ => False)) := by
  refine ⟨fun pins s σ H Q I h => ?_⟩
  obtain ⟨nm, q, N, bs, bm, sn, sub, ab, col, dd, k0, k1, k2, k3, k5, hC, hbm⟩ := T.cls
  refine wpAny_Call_Name_kw (ld_glob I hg hm ?_ hdb)
  refine PySem.W.callWith_K (h₀ := X.base) I.ok.mod.kin T.kC (thn (ha.run pos pins s σ H _ I h) fun us s1 ⟨vs, H1, I1, r1, hz, q1⟩ => ⟨I1.kIn, ?_⟩) he hpl
  show wpAny _ _ (call (.ref C) us) _ _ _
  obtain ⟨hp, g, dr, tk, os⟩ := s1
  have hsz : hp.objs.size ≤ hp.objs.size + 1 := Nat.le_succ _
  have hn : H1 (hp.objs.size + 1) = none := I1.hok.fresh hsz
  have hq := q1 (hp.objs.size + 1) hn
  have kk : ∀ b o, hp.get? b = some o → ((hp.push (PySem.W.kdv_tup us)).push (PySem.HandSPX.excO C hp.objs.size)).get? b = some o := fun b o e => Heap.get?_push_of_some _ (Heap.get?_push_of_some _ e)
  have hget : ((hp.push (PySem.W.kdv_tup us)).push (PySem.HandSPX.excO C hp.objs.size)).get? (hp.objs.size + 1) = some (PySem.HandSPX.excO C hp.objs.size) := by heap_get
  have I2 : Inv X pins σ (upd H1 (hp.objs.size + 1) (exo (hp.objs.size + 1) C none)) ⟨(hp.push (PySem.W.kdv_tup us)).push (PySem.HandSPX.excO C hp.objs.size), g, dr, tk, os⟩ :=
    I1.laid (t' := tk) (a := hp.objs.size + 1) (o := exo (hp.objs.size + 1) C none) (h' := (hp.push (PySem.W.kdv_tup us)).push (PySem.HandSPX.excO C hp.objs.size)) kk hsz (exo_ok hget)
  have r2 : Vals (V.ref (hp.objs.size + 1) :: (vs ++ dvs)) (Value.ref (hp.objs.size + 1) :: (us ++ ds)) := .cons rfl (r1.append hd)
  have hl : (Value.ref (hp.objs.size + 1) :: us ++ ds).length = ps.length := by
    have e := r2.length
    rw [F1.len _ _ _ _ hq] at e
    exact e.symm
  have hus : us.length ≤ sizeLine := by
    rw [← Paired.length r1, sizeLine_eq]
    omega
  refine wpAny_call (PySem.HandSPX.call_own F.excBase_ValueError (fun Y => PySem.HandSPX.refsVE_contains Y bm hbm) (I1.kIn _ _ hC) (PySem.W.looks_findIn I1.kIn iC) (fun self => PySem.W.bind_fn I1.kIn self tI) hus
    (codeAny_mono (F1.run _ X.stack _ _ ⟨Value.ref (hp.objs.size + 1) :: us, []⟩ (Value.ref (hp.objs.size + 1) :: (us ++ ds)) _ _ (fun _ _ _ => False) (hr.make C us []) (I2.env0.make C us []) (hb _ (Value.ref (hp.objs.size + 1) :: us) I2.kIn hl) r2 hq) fun r s' hq' => ?_))
  cases r with
  | error er => exact hx pins σ _ _ er s' I2 hq'
  | ok fl =>
    cases fl with
    | ret u =>
      obtain ⟨v, H2, os2, bare2, un2, hok2, rv, ev, q2⟩ := hq'
      subst ev
      exact ⟨rv, .ref (hp.objs.size + 1), H2, I2.call' (ch := []) os2 un2 hok2 bare2 (fun b z => absurd z (by simp)), rfl, q2⟩
    | next => exact False.elim hq'
    | brk => exact False.elim hq'
    | cont => exact False.elim hq'
end
/-! ### isinstance and parts of it -/
def ErrIn (H : Hp) (a C : Addr) : Prop := H a = some (ExO (.ref C) a) ∨ ∃ d gs, H a = some (exo a C (some d)) ∧ H d = some (exd d gs)
def rIsV (K : PySem.W.Frag) : List V → Hp → VK → Prop := fun xs H Q => ∃ (a C : Addr) (c : V) (cv : Value) (b : Bool), xs = [.ref a, c] ∧ ErrIn H a C ∧ ExcC K C ∧ (∀ u, RelV c u → u = cv) ∧ PySem.W.kitOne K (.ref C) cv = some b ∧ Q (.bl b) H
theorem call_isV {X : Cx} : CallR X (.builtin "isinstance") (rIsV X.K) := by
  intro pins s σ H xs us Q I r h
  obtain ⟨a, D, c, cv, b, rfl, ho, C, hcv, e, q⟩ := h
  cases r with
  | cons r1 r =>
    cases r with
    | cons r2 r =>
      cases r
      cases r1
      obtain rfl := hcv _ r2
      rcases ho with ho | ⟨d, gs, ho, hd⟩
      · have x : ObjOk X.prog X.w H s.heap a (ExO (.ref D) a) := I.hok a _ ho
        obtain ⟨⟨oe, vs, hget, hz, hdat, _⟩, _, _⟩ := x
        have J : PySem.W.InstAt s.heap a oe D none := by
          obtain ⟨oc, od, oda, osl⟩ := oe
          obtain ⟨h1, h2⟩ := hz
          dsimp only at h1 h2 hdat
          subst h1 h2 hdat
          exact ⟨hget, rfl, rfl, trivial⟩
        exact PySem.W.kia_one (PySem.W.handS_kitx_exc C.hg C.hk C.hs C.hd C.ha C.hn C.ht C.hm) I.kIn J e (fun z => nomatch z) fun tk => ⟨.bl b, H, I.kept (t' := tk) fun _ _ z => z, rfl, q⟩
      · obtain ⟨t1, hget⟩ := exo_at I.hok ho
        obtain ⟨mA, hns, _⟩ := exd_at I.hok hd
        obtain ⟨od, hod, _⟩ := lookIn_ns hns
        have J : PySem.W.InstAt s.heap a _ D (some od) := ⟨hget, rfl, rfl, hod⟩
        obtain ⟨cd, hcd, _⟩ := PySem.W.any_some C.hd
        exact PySem.W.kia_one (PySem.W.kitx_exc (by rw [hcd]; rfl) C.hg C.hk C.hs C.ha C.hn C.ht C.hm) I.kIn J e (fun z => nomatch z) fun tk => ⟨.bl b, H, I.kept (t' := tk) fun _ _ z => z, rfl, q⟩
/-- the reading of a part -/
theorem pe_xfV {X : Cx} {e : Expr} {te : TE} {pos : Pos} {n : Str} (he : PE X e te) (hb : attributeBase e n X.env (eval e X.env) = eval e X.env) :
    PE X (.Attribute e n pos) (fun σ H Q => te σ H fun x H1 => ∃ a d C gs v, x = .ref a ∧ XfC X.K C ∧ PySem.W.findIn X.K (.ref C) n = some none ∧ H1 a = some (exo a C (some d)) ∧ H1 d = some (exd d gs) ∧ gs.lookup n = some v ∧ Q v H1) := by
  refine ⟨fun pins s σ H Q I h => ?_⟩
  refine attr_of hb (thn (he.run pins s σ H _ I h) fun u s1 hh => ?_)
  obtain ⟨x, H1, I1, rx, a, d, C, gs, v, ex, T, hno, ho, hd, l, q⟩ := hh
  subst ex
  obtain rfl : u = Value.ref a := rx
  obtain ⟨t1, hget⟩ := exo_at I1.hok ho
  obtain ⟨mA, hns, hr⟩ := exd_at I1.hok hd
  obtain ⟨od, hod, hl⟩ := lookIn_ns hns
  obtain ⟨u, hu, ru⟩ := RelO.some_of (v := v) (o := mA n) (by rw [← l]; exact hr n)
  have J : PySem.W.InstAt s1.heap a _ C (some od) := ⟨hget, rfl, rfl, hod⟩
  exact HandSPX.exc_get I1.kIn J T.ga T.gg T.exC (PySem.W.findObj_own T.hdC hno rfl (by rw [hl, hu])) (handed_of ru) ⟨v, H1, I1.tok _, ru, q⟩
section
variable {X : Cx} {P : Program} {w : World} {K : PySem.W.Frag} {mg : Str → Option Value} {base : Heap} {N Vn L G B : List Str} {S : Scope} {k k2 n : Nat} {x y : Str} {i j j2 : Nat}
variable {m : Option Mem} {env : Ev} {a b c e iter elt o tg : Expr} {es : List Expr} {Q : D → Prop} {pos p2 p3 p4 pr : Pos} {R : DEnds} {C : Addr} {fld : Str}
theorem dl_er0 (dx : DX X P w K mg base N Vn L G S k) (F : ErrAt K mg x C) (h3 : At G j x) (h : Q (.er0 C)) : WE X m env (.Call (.Name x p2) [] [] p3) Q := by
  obtain ⟨bmB, B', nI, iI, F1, F2⟩ := F.ex
  obtain ⟨g1, g2, g3⟩ := dx.g h3
  obtain rfl := dx.K_
  obtain rfl := dx.mg_
  refine ⟨fun σ H0 F' H kk g ev t => tec (pe_bareV F1 F2 F.at_ F.kp g1 g2) fun a ha => ?_⟩
  exact t _ (.er0 C) _ _ (g.grow ha) (.er0 upd_same) h
theorem dl_er1 (dx : DX X P w K mg base N Vn L G S k) (F : ErrAt1 P w K mg base x C fld) (h3 : At G j x) (hk : 2 ≤ k) (he : starEach [e] X.env = [(false, eval e X.env)]) (hpl : (backTo p3 (starEach [] X.env)).any (·.1) = false)
    (hw : WE X m env e fun d => Q (.er1 C fld d)) : WE X m env (.Call (.Name x p2) [e] [] p3) Q := by
  obtain ⟨fI, fd, ps, Fn, hb, iC, tI⟩ := F.ex
  obtain ⟨g1, g2, g3⟩ := dx.g h3
  obtain rfl := dx.prog
  obtain rfl := dx.w_
  obtain rfl := dx.K_
  obtain rfl := dx.mg_
  obtain rfl := dx.base_
  refine ⟨fun σ H0 F' H kk g ev t => tec (pe_oexV F.oex iC tI Fn (dx.room.mono hk) hb .nil passL g1 F.at_ (pa_cons pe_can pa_nil he) g2 he hpl) ?_⟩
  refine hw.run σ H0 F' H _ g ev fun v d F1 H1 s1 hv q => ⟨by simp, fun ad had => ?_⟩
  refine ⟨ad, v, rfl, upd_same, fun dd hd hne => ⟨rfl, ?_⟩⟩
  have hd1 : H1 dd = none := (upd_ne hne).symm.trans hd
  have e : upd (upd (upd H1 ad (exo ad C none)) dd (exd dd [(fld, v)])) ad (exo ad C (some dd)) = upd (upd H1 dd (exd dd [(fld, v)])) ad (exo ad C (some dd)) := by
    funext z
    by_cases hz : z = ad
    · subst hz; rw [upd_same, upd_same]
    · rw [upd_ne hz, upd_ne hz]
      by_cases h2 : z = dd
      · subst h2; rw [upd_same, upd_same]
      · rw [upd_ne h2, upd_ne h2, upd_ne hz]
  rw [e]
  have st1 := s1.good.grow (o := exd dd [(fld, v)]) hd1
  have had2 : (upd H1 dd (exd dd [(fld, v)])) ad = none := (upd_ne (Ne.symm hne)).trans had
  have st2 := st1.good.grow (o := exo ad C (some dd)) had2
  exact t _ (.er1 C fld d) _ _ ((s1.trans st1).trans st2) (.er1 upd_same ((upd_ne hne).trans upd_same) (hv.mono (st1.fs.trans st2.fs))) q
def D.errOf : D → Option Addr | .er0 C => some C | .er1 C _ _ => some C | _ => none
theorem Is.errIn {K : PySem.W.Frag} {F H : Hp} {v : V} {d : D} (h : Is K F v d) (s : Same F H) (e : d.errOf = some C) : ∃ a, v = .ref a ∧ ErrIn H a C := by
  cases h <;> simp only [D.errOf, Option.some.injEq, reduceCtorEq] at e
  all_goals subst e
  · rename_i h1; exact ⟨_, rfl, .inl (s _ _ h1)⟩
  · rename_i h1 h2 _; exact ⟨_, rfl, .inr ⟨_, _, s _ _ h1, s _ _ h2⟩⟩
inductive TyIs : D → Value → Prop
  | ref (T : Addr) : TyIs (.ref T) (.ref T)
  | ty (n : String) : TyIs (.ty n) (.type n)
theorem cd_isV {K : PySem.W.Frag} {ds : List D} {P : D → Prop} (q : as2 ds fun x c => ∃ C cv r, x.errOf = some C ∧ TyIs c cv ∧ ExcC K C ∧ PySem.W.kitOne K (.ref C) cv = some r ∧ P (.bl r)) : CD K m (rIsV K) ds P := by
  refine ⟨fun F H vs k g hvs t => ?_⟩
  obtain ⟨v, w, d, e, rfl, rfl, hv, hw, C, cv, r, h1, h2, hC, h3, q⟩ := hvs.as2 q
  obtain ⟨a, rfl, he⟩ := hv.errIn g.sub h1
  refine ⟨a, C, w, cv, r, rfl, he, hC, fun u ru => ?_, h3, t.at g (.bl _) q⟩
  cases h2 <;> cases hw <;> exact ru
/-- isinstance(e, C), e an error -/
theorem dl_isV (dx : DX X P w K mg base N Vn L G S k) (bn : NoMg mg B) (h3 : At G j "isinstance") (h4 : At B j2 "isinstance") (hs : starEach [a, b] X.env = [(false, eval a X.env), (false, eval b X.env)]) (hs2 : starEach [b] X.env = [(false, eval b X.env)])
    (w : WE X m env a fun x => WE X m env b fun c => ∃ C cv r, x.errOf = some C ∧ TyIs c cv ∧ ExcC K C ∧ PySem.W.kitOne K (.ref C) cv = some r ∧ Q (.bl r)) : WE X m env (.Call (.Name "isinstance" p2) [a, b] [] pos) Q := by
  refine dl_cb2 call_isV boot_isinstance dx bn h3 h4 hs hs2 (w.mono fun x h => h.mono fun c h => ?_)
  rw [dx.K_]
  exact cd_isV h
/-- e.f, e an error with one part -/
theorem dl_partV (dx : DX X P w K mg base N Vn L G S k) (hb : attributeBase e fld X.env (eval e X.env) = eval e X.env)
    (h : WE X m env e fun x => ∃ C d, x = .er1 C fld d ∧ XfC K C ∧ PySem.W.findIn K (.ref C) fld = some none ∧ Q d) : WE X m env (.Attribute e fld pos) Q := by
  refine ⟨fun σ H0 F H kk g ev t => tec (pe_xfV pe_can hb) ?_⟩
  refine h.run σ H0 F H _ g ev fun v x F1 H1 s1 hv q => ?_
  obtain ⟨C, d, rfl, hC, hno, q⟩ := q
  cases hv with
  | er1 h1 h2 h3 =>
    rw [dx.K_]
    exact ⟨_, _, C, _, _, rfl, hC, hno, s1.good.sub _ _ h1, s1.good.sub _ _ h2, by simp [List.lookup], (t.after s1).at s1.good h3 q⟩
/-! ### x.append(y.pop(e)) -/
theorem ws_appPop (i j : Nat) (hij : j ≠ i) {p5 p6 p7 : Pos} (hN : X.N[i]? = some x) (hv : Vis X.env.scope x) (hd : (x == ("__debug__" : Str)) = false) (hcd : (x == ("__classdict__" : Str)) = false) (hN2 : X.N[j]? = some y) (hv2 : Vis X.env.scope y) (hd2 : (y == ("__debug__" : Str)) = false) (hcd2 : (y == ("__classdict__" : Str)) = false)
    (hbm : ∀ {to : TE} {t : TA}, PE X (.Name x p2) to → PA X [.Call (.Attribute (.Name y p5) "pop" p6) [e] [] p7] t → PE X (.Call (.Attribute (.Name x p2) "append" p3) [.Call (.Attribute (.Name y p5) "pop" p6) [e] [] p7] [] p4) (tBM X.K "list" rAppend to t))
    (hbm2 : ∀ {to : TE} {t : TA}, PE X (.Name y p5) to → PA X [e] t → PE X (.Call (.Attribute (.Name y p5) "pop" p6) [e] [] p7) (tBM X.K "list" rPopAt to t))
    (hst : starEach [e] X.env = [(false, eval e X.env)]) (hst2 : starEach [.Call (.Attribute (.Name y p5) "pop" p6) [e] [] p7] X.env = [(false, eval (.Call (.Attribute (.Name y p5) "pop" p6) [e] [] p7) X.env)])
    (hs : swapsWith (.Call (.Attribute (.Name x p2) "append" p3) [.Call (.Attribute (.Name y p5) "pop" p6) [e] [] p7] [] p4) none pos.line X.env = pure false)
    {q0 q1 : Addr} {ds es : List D} (hds : env[i]? = some (some (.own q0 (.lst ds)))) (hes : env[j]? = some (some (.own q1 (.lst es)))) (hl : ds.length < 1000000)
    (h : WE X m env e fun d => asInt d fun z => ∃ k u, -(2 ^ 63) ≤ z ∧ z < 2 ^ 63 ∧ seqIndex? z es.length = some k ∧ es[k]? = some u ∧ R.nx ((env.set j (some (.own q1 (.lst (es.eraseIdx k))))).set i (some (.own q0 (.lst (ds ++ [u])))))) :
    WS X m env (.Expr (.Call (.Attribute (.Name x p2) "append" p3) [.Call (.Attribute (.Name y p5) "pop" p6) [e] [] p7] [] p4) pos) R := by
  refine ⟨fun σ F0 H0 Fl F H De W s o => tsc (ps_expr (hbm (pe_var hN hv hd hcd) (pa_cons (hbm2 (pe_var hN2 hv2 hd2 hcd2) (pa_cons pe_can pa_nil hst)) pa_nil hst2)) hs) ?_⟩
  obtain ⟨v, hσ, ho, rfl, hm, hF, h0, hH, xs, rfl, ha⟩ := s.env.at_ i _ hds
  obtain ⟨v2, hσ2, ho2, rfl, hm2, hF2, h02, hH2, ys, rfl, ha2⟩ := s.env.at_ j _ hes
  refine ⟨.ref q0, hσ, .inl ⟨rfl, xs, .of hH⟩, ?_⟩
  refine ⟨.ref q1, hσ2, .inl ⟨rfl, ys, .of hH2⟩, ?_⟩
  refine h.run σ H0 F H _ s.good s.env fun v d F1 H1 s1 hv q => ?_
  obtain ⟨z, rfl, rfl, k, u, hz1, hz2, hk, hu, q⟩ := hv.asInt q
  have hH21 := s1.keep q1 _ hm2 hH2
  obtain ⟨w1, hw1, iu⟩ := (ha2.mono s1.fs).get hu
  refine ⟨q1, ys, z, k, w1, rfl, rfl, hH21, hz1, hz2, by rw [ha2.length]; exact hk, hw1, ?_⟩
  have hF11 := s1.noF hF ⟨_, hH⟩
  have sta1 : Sta X.K m F0 H0 Fl F1 (upd H1 q1 (.lst (ys.eraseIdx k))) σ (env.set j (some (.own q1 (.lst (es.eraseIdx k))))) :=
    ⟨(s.step.trans s1).mut (s1.noF hF2 ⟨_, hH2⟩) hm2 h02, (s.env.step s1).mut hes (.ofL ((ha2.mono s1.fs).eraseIdx k)), s.fl.trans s1.fs⟩
  have hds' : (env.set j (some (.own q1 (.lst (es.eraseIdx k)))))[i]? = some (some (.own q0 (.lst ds))) := by rw [List.getElem?_set_ne hij]; exact hds
  have hne : q0 ≠ q1 := fun z => s.env.apart i j _ (.lst es) q0 (Ne.symm hij) hds (by rw [z]; exact hes)
  refine ⟨q0, xs, w1, rfl, rfl, (upd_ne hne).trans (s1.keep q0 _ hm hH), by rw [ha.length, sizeLine_eq]; omega, ?_⟩
  exact o.nx _ _ F1 _ ⟨sta1.step.mut hF11 hm h0, sta1.env.mut hds' (.ofL ((ha.mono s1.fs).append (.cons iu .nil))), sta1.fl⟩ q
theorem dl_appPop {p5 p6 p7 : Pos} (dx : DX X P w K mg base N Vn L G S k) {j4 : Nat} (h1 : At N i x) (h2 : At Vn j2 x) (h5 : At N j y) (h6 : At Vn j4 y) (hij : j ≠ i)
    (hbm : ∀ {to : TE} {t : TA}, PE X (.Name x p2) to → PA X [.Call (.Attribute (.Name y p5) "pop" p6) [e] [] p7] t → PE X (.Call (.Attribute (.Name x p2) "append" p3) [.Call (.Attribute (.Name y p5) "pop" p6) [e] [] p7] [] p4) (tBM X.K "list" rAppend to t))
    (hbm2 : ∀ {to : TE} {t : TA}, PE X (.Name y p5) to → PA X [e] t → PE X (.Call (.Attribute (.Name y p5) "pop" p6) [e] [] p7) (tBM X.K "list" rPopAt to t))
    (hst : starEach [e] X.env = [(false, eval e X.env)]) (hst2 : starEach [.Call (.Attribute (.Name y p5) "pop" p6) [e] [] p7] X.env = [(false, eval (.Call (.Attribute (.Name y p5) "pop" p6) [e] [] p7) X.env)])
    (hs : swapsWith (.Call (.Attribute (.Name x p2) "append" p3) [.Call (.Attribute (.Name y p5) "pop" p6) [e] [] p7] [] p4) none pos.line X.env = pure false)
    {q0 q1 : Addr} {ds es : List D} (hds : env[i]? = some (some (.own q0 (.lst ds)))) (hes : env[j]? = some (some (.own q1 (.lst es)))) (hl : ds.length < 1000000)
    (h : WE X m env e fun d => asInt d fun z => ∃ k u, -(2 ^ 63) ≤ z ∧ z < 2 ^ 63 ∧ seqIndex? z es.length = some k ∧ es[k]? = some u ∧ R.nx ((env.set j (some (.own q1 (.lst (es.eraseIdx k))))).set i (some (.own q0 (.lst (ds ++ [u])))))) :
    WS X m env (.Expr (.Call (.Attribute (.Name x p2) "append" p3) [.Call (.Attribute (.Name y p5) "pop" p6) [e] [] p7] [] p4) pos) R :=
  let ⟨v, d1, d2⟩ := dx.v h2; let ⟨v', d1', d2'⟩ := dx.v h6; ws_appPop i j hij (dx.n h1) v d1 d2 (dx.n h5) v' d1' d2' hbm hbm2 hst hst2 hs hds hes hl h
end
end DL
set_option Elab.async false
set_option linter.all false
set_option maxRecDepth 100000
set_option autoImplicit false
/-! DL, part 23: list(range(n)); clear. -/
namespace DL
open PySem L2
theorem isAll_rg {K : PySem.W.Frag} {F : Hp} {n : Nat} : IsAll K F (rgV 0 n) ((List.range n).map fun i => D.int (i : Nat)) := by
  have h : rgV 0 (n : Int) = ((List.range n).map fun i => ((i : Nat) : Int)).map V.int := by
    unfold rgV
    rw [List.map_map, show ((n : Int) - 0).toNat = n by omega]
    refine List.map_congr_left fun a _ => ?_
    show V.int _ = V.int _
    rw [Int.zero_add]
  have h2 : ((List.range n).map fun i => D.int (i : Nat)) = ((List.range n).map fun i => ((i : Nat) : Int)).map D.int := by rw [List.map_map]; rfl
  rw [h, h2]
  exact isAll_ints _
section
variable {X : Cx} {P : Program} {w : World} {K : PySem.W.Frag} {mg : Str → Option Value} {base : Heap} {N Vn L G B : List Str} {S : Scope} {k k2 n : Nat} {x y : Str} {i j j2 : Nat}
variable {m : Option Mem} {env : Ev} {a b c e iter elt o tg : Expr} {es : List Expr} {pos p2 p3 p4 pr : Pos} {R : DEnds} {ps : List Str} {body : List Stmt}
theorem dl_listRg {Q : List D → Prop} (dx : DX X P w K mg base N Vn L G S k) (bn : NoMg mg B) (h1 : At G j "list") (h2 : At B j2 "list") {j3 j4 : Nat} (h3 : At G j3 "range") (h4 : At B j4 "range") (hst : starEach [a] X.env = [(false, eval a X.env)])
    (hst2 : starEach [.Call (.Name "range" p2) [a] [] pr] X.env = [(false, eval (.Call (.Name "range" p2) [a] [] pr) X.env)])
    (h : WE X m env a fun d => asInt d fun i => (0 ≤ i ∧ i ≤ 1000000) ∧ Q ((List.range i.toNat).map fun k => D.int (k : Nat))) : WL X m env (.Call (.Name "list" p3) [.Call (.Name "range" p2) [a] [] pr] [] pos) Q := by
  obtain ⟨g1, g2, g3⟩ := dx.g h1
  obtain ⟨r1, r2, r3⟩ := dx.g h3
  refine ⟨fun σ H0 F H kk g ev t => tec (pe_listRg dx.calm g1 (dx.b bn h2) (prg_1 r1 (dx.b bn h4) pe_can hst) hst2) ?_⟩
  refine h.run σ H0 F H _ g ev fun v d F1 H1 s1 hv q => ?_
  obtain ⟨z, rfl, rfl, ⟨hz0, hz1⟩, q⟩ := hv.asInt q
  obtain ⟨n, rfl⟩ := Int.eq_ofNat_of_zero_le hz0
  refine ⟨n, rfl, .of_le (by decide) (by omega) (by decide) (by omega), fun l hl => ?_⟩
  exact (t.after s1 g).laid s1.good hl isAll_rg (by rw [Int.toNat_natCast] at q; exact q)
/-- x.clear(), x a list of the frame's own -/
theorem ws_clear (i : Nat) (hN : X.N[i]? = some x) (hv : Vis X.env.scope x) (hd : (x == ("__debug__" : Str)) = false) (hcd : (x == ("__classdict__" : Str)) = false)
    (hbm : ∀ {to : TE} {t : TA}, PE X (.Name x p2) to → PA X [] t → PE X (.Call (.Attribute (.Name x p2) "clear" p3) [] [] p4) (tBM X.K "list" rClear to t))
    (hs : swapsWith (.Call (.Attribute (.Name x p2) "clear" p3) [] [] p4) none pos.line X.env = pure false)
    {q0 : Addr} {ds : List D} (hds : env[i]? = some (some (.own q0 (.lst ds)))) (h : R.nx (env.set i (some (.own q0 (.lst []))))) : WS X m env (.Expr (.Call (.Attribute (.Name x p2) "clear" p3) [] [] p4) pos) R := by
  refine ⟨fun σ F0 H0 Fl F H De W s o => tsc (ps_expr (hbm (pe_var hN hv hd hcd) pa_nil) hs) ?_⟩
  obtain ⟨v, hσ, ho, rfl, hm, hF, h0, hH, xs, rfl, ha⟩ := s.env.at_ i _ hds
  refine ⟨.ref q0, hσ, .inl ⟨rfl, xs, .of hH⟩, ?_⟩
  refine ⟨q0, xs, rfl, rfl, hH, ?_⟩
  exact o.nx _ _ F _ ⟨s.step.mut hF hm h0, s.env.mut hds (.ofL .nil), s.fl⟩ h
end
end DL
set_option Elab.async false
set_option linter.all false
set_option maxRecDepth 100000
set_option autoImplicit false
set_option pp.deepTerms false
set_option pp.deepTerms.threshold 7
set_option pp.maxSteps 3000
set_option maxHeartbeats 1600000
namespace My
open PySem L2 DL
def top (i : Nat) : Stmt := PySem.Challenge.pw_claimclasses_k14_errors_with_their_parts.main.body.getD i (.Pass ⟨0, 0, 0, 0⟩)
abbrev s_NoClass_init : Stmt := inClass (top 4) 0
abbrev N_NoClass_init : List Str := ["self", "at"]
abbrev P_NoClass_init : List Str := ["self", "at"]
abbrev V_NoClass_init : List Str := ["self", "at"]
abbrev L_NoClass_init : List Str := ["self", "at"]
abbrev G_NoClass_init : List Str := ["ClaimError"]
theorem sc_NoClass_init : FnScope N_NoClass_init P_NoClass_init (defScope s_NoClass_init) :=
  ⟨rfl, rfl, rfl, by decide +kernel, rfl, by decide +kernel, by decide +kernel⟩
theorem v_NoClass_init : ∀ x ∈ V_NoClass_init, VisOk (defScope s_NoClass_init) x = true := by decide +kernel
theorem l_NoClass_init : ∀ x ∈ L_NoClass_init, LocOk (defScope s_NoClass_init) x = true := by decide +kernel
theorem g_NoClass_init : ∀ x ∈ G_NoClass_init, GlOk (defScope s_NoClass_init) x = true := by decide +kernel
abbrev s_BadClaims_init : Stmt := inClass (top 5) 0
abbrev N_BadClaims_init : List Str := ["self", "claims"]
abbrev P_BadClaims_init : List Str := ["self", "claims"]
abbrev V_BadClaims_init : List Str := ["self", "claims"]
abbrev L_BadClaims_init : List Str := ["self", "claims"]
abbrev G_BadClaims_init : List Str := ["ClaimError"]
theorem sc_BadClaims_init : FnScope N_BadClaims_init P_BadClaims_init (defScope s_BadClaims_init) :=
  ⟨rfl, rfl, rfl, by decide +kernel, rfl, by decide +kernel, by decide +kernel⟩
theorem v_BadClaims_init : ∀ x ∈ V_BadClaims_init, VisOk (defScope s_BadClaims_init) x = true := by decide +kernel
theorem l_BadClaims_init : ∀ x ∈ L_BadClaims_init, LocOk (defScope s_BadClaims_init) x = true := by decide +kernel
theorem g_BadClaims_init : ∀ x ∈ G_BadClaims_init, GlOk (defScope s_BadClaims_init) x = true := by decide +kernel
abbrev s_TooMany_init : Stmt := inClass (top 7) 0
abbrev N_TooMany_init : List Str := ["self", "count"]
abbrev P_TooMany_init : List Str := ["self", "count"]
abbrev V_TooMany_init : List Str := ["self", "count"]
abbrev L_TooMany_init : List Str := ["self", "count"]
abbrev G_TooMany_init : List Str := ["ClaimError"]
theorem sc_TooMany_init : FnScope N_TooMany_init P_TooMany_init (defScope s_TooMany_init) :=
  ⟨rfl, rfl, rfl, by decide +kernel, rfl, by decide +kernel, by decide +kernel⟩
theorem v_TooMany_init : ∀ x ∈ V_TooMany_init, VisOk (defScope s_TooMany_init) x = true := by decide +kernel
theorem l_TooMany_init : ∀ x ∈ L_TooMany_init, LocOk (defScope s_TooMany_init) x = true := by decide +kernel
theorem g_TooMany_init : ∀ x ∈ G_TooMany_init, GlOk (defScope s_TooMany_init) x = true := by decide +kernel
abbrev s_BadYears_init : Stmt := inClass (top 9) 0
abbrev N_BadYears_init : List Str := ["self", "years"]
abbrev P_BadYears_init : List Str := ["self", "years"]
abbrev V_BadYears_init : List Str := ["self", "years"]
abbrev L_BadYears_init : List Str := ["self", "years"]
abbrev G_BadYears_init : List Str := ["ClaimError"]
theorem sc_BadYears_init : FnScope N_BadYears_init P_BadYears_init (defScope s_BadYears_init) :=
  ⟨rfl, rfl, rfl, by decide +kernel, rfl, by decide +kernel, by decide +kernel⟩
theorem v_BadYears_init : ∀ x ∈ V_BadYears_init, VisOk (defScope s_BadYears_init) x = true := by decide +kernel
theorem l_BadYears_init : ∀ x ∈ L_BadYears_init, LocOk (defScope s_BadYears_init) x = true := by decide +kernel
theorem g_BadYears_init : ∀ x ∈ G_BadYears_init, GlOk (defScope s_BadYears_init) x = true := by decide +kernel
abbrev s_NoPlace_init : Stmt := inClass (top 14) 0
abbrev N_NoPlace_init : List Str := ["self", "place"]
abbrev P_NoPlace_init : List Str := ["self", "place"]
abbrev V_NoPlace_init : List Str := ["self", "place"]
abbrev L_NoPlace_init : List Str := ["self", "place"]
abbrev G_NoPlace_init : List Str := ["ClaimError"]
theorem sc_NoPlace_init : FnScope N_NoPlace_init P_NoPlace_init (defScope s_NoPlace_init) :=
  ⟨rfl, rfl, rfl, by decide +kernel, rfl, by decide +kernel, by decide +kernel⟩
theorem v_NoPlace_init : ∀ x ∈ V_NoPlace_init, VisOk (defScope s_NoPlace_init) x = true := by decide +kernel
theorem l_NoPlace_init : ∀ x ∈ L_NoPlace_init, LocOk (defScope s_NoPlace_init) x = true := by decide +kernel
theorem g_NoPlace_init : ∀ x ∈ G_NoPlace_init, GlOk (defScope s_NoPlace_init) x = true := by decide +kernel
abbrev s_Billed_init : Stmt := inClass (top 16) 0
abbrev N_Billed_init : List Str := ["self", "year"]
abbrev P_Billed_init : List Str := ["self", "year"]
abbrev V_Billed_init : List Str := ["self", "year"]
abbrev L_Billed_init : List Str := ["self", "year"]
abbrev G_Billed_init : List Str := ["ClaimError"]
theorem sc_Billed_init : FnScope N_Billed_init P_Billed_init (defScope s_Billed_init) :=
  ⟨rfl, rfl, rfl, by decide +kernel, rfl, by decide +kernel, by decide +kernel⟩
theorem v_Billed_init : ∀ x ∈ V_Billed_init, VisOk (defScope s_Billed_init) x = true := by decide +kernel
theorem l_Billed_init : ∀ x ∈ L_Billed_init, LocOk (defScope s_Billed_init) x = true := by decide +kernel
theorem g_Billed_init : ∀ x ∈ G_Billed_init, GlOk (defScope s_Billed_init) x = true := by decide +kernel
abbrev s_NotBilled_init : Stmt := inClass (top 17) 0
abbrev N_NotBilled_init : List Str := ["self", "year"]
abbrev P_NotBilled_init : List Str := ["self", "year"]
abbrev V_NotBilled_init : List Str := ["self", "year"]
abbrev L_NotBilled_init : List Str := ["self", "year"]
abbrev G_NotBilled_init : List Str := ["ClaimError"]
theorem sc_NotBilled_init : FnScope N_NotBilled_init P_NotBilled_init (defScope s_NotBilled_init) :=
  ⟨rfl, rfl, rfl, by decide +kernel, rfl, by decide +kernel, by decide +kernel⟩
theorem v_NotBilled_init : ∀ x ∈ V_NotBilled_init, VisOk (defScope s_NotBilled_init) x = true := by decide +kernel
theorem l_NotBilled_init : ∀ x ∈ L_NotBilled_init, LocOk (defScope s_NotBilled_init) x = true := by decide +kernel
theorem g_NotBilled_init : ∀ x ∈ G_NotBilled_init, GlOk (defScope s_NotBilled_init) x = true := by decide +kernel
abbrev s_BadName_init : Stmt := inClass (top 18) 0
abbrev N_BadName_init : List Str := ["self", "name"]
abbrev P_BadName_init : List Str := ["self", "name"]
abbrev V_BadName_init : List Str := ["self", "name"]
abbrev L_BadName_init : List Str := ["self", "name"]
abbrev G_BadName_init : List Str := ["ClaimError"]
theorem sc_BadName_init : FnScope N_BadName_init P_BadName_init (defScope s_BadName_init) :=
  ⟨rfl, rfl, rfl, by decide +kernel, rfl, by decide +kernel, by decide +kernel⟩
theorem v_BadName_init : ∀ x ∈ V_BadName_init, VisOk (defScope s_BadName_init) x = true := by decide +kernel
theorem l_BadName_init : ∀ x ∈ L_BadName_init, LocOk (defScope s_BadName_init) x = true := by decide +kernel
theorem g_BadName_init : ∀ x ∈ G_BadName_init, GlOk (defScope s_BadName_init) x = true := by decide +kernel
abbrev s_NameTaken_init : Stmt := inClass (top 19) 0
abbrev N_NameTaken_init : List Str := ["self", "name"]
abbrev P_NameTaken_init : List Str := ["self", "name"]
abbrev V_NameTaken_init : List Str := ["self", "name"]
abbrev L_NameTaken_init : List Str := ["self", "name"]
abbrev G_NameTaken_init : List Str := ["ClaimError"]
theorem sc_NameTaken_init : FnScope N_NameTaken_init P_NameTaken_init (defScope s_NameTaken_init) :=
  ⟨rfl, rfl, rfl, by decide +kernel, rfl, by decide +kernel, by decide +kernel⟩
theorem v_NameTaken_init : ∀ x ∈ V_NameTaken_init, VisOk (defScope s_NameTaken_init) x = true := by decide +kernel
theorem l_NameTaken_init : ∀ x ∈ L_NameTaken_init, LocOk (defScope s_NameTaken_init) x = true := by decide +kernel
theorem g_NameTaken_init : ∀ x ∈ G_NameTaken_init, GlOk (defScope s_NameTaken_init) x = true := by decide +kernel
abbrev s_NoPolicy_init : Stmt := inClass (top 20) 0
abbrev N_NoPolicy_init : List Str := ["self", "name"]
abbrev P_NoPolicy_init : List Str := ["self", "name"]
abbrev V_NoPolicy_init : List Str := ["self", "name"]
abbrev L_NoPolicy_init : List Str := ["self", "name"]
abbrev G_NoPolicy_init : List Str := ["ClaimError"]
theorem sc_NoPolicy_init : FnScope N_NoPolicy_init P_NoPolicy_init (defScope s_NoPolicy_init) :=
  ⟨rfl, rfl, rfl, by decide +kernel, rfl, by decide +kernel, by decide +kernel⟩
theorem v_NoPolicy_init : ∀ x ∈ V_NoPolicy_init, VisOk (defScope s_NoPolicy_init) x = true := by decide +kernel
theorem l_NoPolicy_init : ∀ x ∈ L_NoPolicy_init, LocOk (defScope s_NoPolicy_init) x = true := by decide +kernel
theorem g_NoPolicy_init : ∀ x ∈ G_NoPolicy_init, GlOk (defScope s_NoPolicy_init) x = true := by decide +kernel
abbrev s_l_bag : Stmt := top 23
abbrev N_l_bag : List Str := ["_law_script"]
abbrev P_l_bag : List Str := ["_law_script"]
abbrev V_l_bag : List Str := ["_law_script"]
abbrev L_l_bag : List Str := ["_law_script"]
abbrev G_l_bag : List Str := ["list"]
theorem sc_l_bag : FnScope N_l_bag P_l_bag (defScope s_l_bag) :=
  ⟨rfl, rfl, rfl, by decide +kernel, rfl, by decide +kernel, by decide +kernel⟩
theorem v_l_bag : ∀ x ∈ V_l_bag, VisOk (defScope s_l_bag) x = true := by decide +kernel
theorem l_l_bag : ∀ x ∈ L_l_bag, LocOk (defScope s_l_bag) x = true := by decide +kernel
theorem g_l_bag : ∀ x ∈ G_l_bag, GlOk (defScope s_l_bag) x = true := by decide +kernel
abbrev s_l_draw : Stmt := top 24
abbrev N_l_draw : List Str := ["_law_bag_here", "_law_size", "_law_cell", "_law_digit", "_law_mixed_here"]
abbrev P_l_draw : List Str := ["_law_bag_here", "_law_size"]
abbrev V_l_draw : List Str := ["_law_bag_here", "_law_size", "_law_cell", "_law_digit", "_law_mixed_here"]
abbrev L_l_draw : List Str := ["_law_bag_here", "_law_size", "_law_cell", "_law_digit", "_law_mixed_here"]
abbrev G_l_draw : List Str := ["len", "abs", "int"]
theorem sc_l_draw : FnScope N_l_draw P_l_draw (defScope s_l_draw) :=
  ⟨rfl, rfl, rfl, by decide +kernel, rfl, by decide +kernel, by decide +kernel⟩
theorem v_l_draw : ∀ x ∈ V_l_draw, VisOk (defScope s_l_draw) x = true := by decide +kernel
theorem l_l_draw : ∀ x ∈ L_l_draw, LocOk (defScope s_l_draw) x = true := by decide +kernel
theorem g_l_draw : ∀ x ∈ G_l_draw, GlOk (defScope s_l_draw) x = true := by decide +kernel
abbrev s_l_mixed : Stmt := top 25
abbrev N_l_mixed : List Str := ["_law_bag_here", "_law_items", "_law_left", "_law_found", "_law_k"]
abbrev P_l_mixed : List Str := ["_law_bag_here", "_law_items"]
abbrev V_l_mixed : List Str := ["_law_bag_here", "_law_items", "_law_left", "_law_found", "_law_k"]
abbrev L_l_mixed : List Str := ["_law_bag_here", "_law_items", "_law_left", "_law_found", "_law_k"]
abbrev G_l_mixed : List Str := ["list", "range", "len", "_law_draw"]
theorem sc_l_mixed : FnScope N_l_mixed P_l_mixed (defScope s_l_mixed) :=
  ⟨rfl, rfl, rfl, by decide +kernel, rfl, by decide +kernel, by decide +kernel⟩
theorem v_l_mixed : ∀ x ∈ V_l_mixed, VisOk (defScope s_l_mixed) x = true := by decide +kernel
theorem l_l_mixed : ∀ x ∈ L_l_mixed, LocOk (defScope s_l_mixed) x = true := by decide +kernel
theorem g_l_mixed : ∀ x ∈ G_l_mixed, GlOk (defScope s_l_mixed) x = true := by decide +kernel
abbrev s_l_kinds : Stmt := top 26
abbrev N_l_kinds : List Str := ["_law_error", "_law_found"]
abbrev P_l_kinds : List Str := ["_law_error"]
abbrev V_l_kinds : List Str := ["_law_error", "_law_found"]
abbrev L_l_kinds : List Str := ["_law_error", "_law_found"]
abbrev G_l_kinds : List Str := ["isinstance", "BadPremiums", "BadTable", "BadSteps", "BadOrder", "BadRows", "BadDamages", "BadHouses", "BadWays", "BadPlan", "NothingToUndo", "NoClass", "BadClaims", "TooMany", "BadYears", "NoPlace", "Billed", "NotBilled", "BadName", "NameTaken", "NoPolicy"]
theorem sc_l_kinds : FnScope N_l_kinds P_l_kinds (defScope s_l_kinds) :=
  ⟨rfl, rfl, rfl, by decide +kernel, rfl, by decide +kernel, by decide +kernel⟩
theorem v_l_kinds : ∀ x ∈ V_l_kinds, VisOk (defScope s_l_kinds) x = true := by decide +kernel
theorem l_l_kinds : ∀ x ∈ L_l_kinds, LocOk (defScope s_l_kinds) x = true := by decide +kernel
theorem g_l_kinds : ∀ x ∈ G_l_kinds, GlOk (defScope s_l_kinds) x = true := by decide +kernel
abbrev s_l_errors : Stmt := top 27
abbrev N_l_errors : List Str := ["_law_part", "_law_found"]
abbrev P_l_errors : List Str := ["_law_part"]
abbrev V_l_errors : List Str := ["_law_part", "_law_found"]
abbrev L_l_errors : List Str := ["_law_part", "_law_found"]
abbrev G_l_errors : List Str := ["BadPremiums", "BadTable", "BadSteps", "BadOrder", "BadRows", "BadDamages", "BadHouses", "BadWays", "BadPlan", "NothingToUndo", "NoClass", "BadClaims", "TooMany", "BadYears", "NoPlace", "Billed", "NotBilled", "BadName", "NameTaken", "NoPolicy"]
theorem sc_l_errors : FnScope N_l_errors P_l_errors (defScope s_l_errors) :=
  ⟨rfl, rfl, rfl, by decide +kernel, rfl, by decide +kernel, by decide +kernel⟩
theorem v_l_errors : ∀ x ∈ V_l_errors, VisOk (defScope s_l_errors) x = true := by decide +kernel
theorem l_l_errors : ∀ x ∈ L_l_errors, LocOk (defScope s_l_errors) x = true := by decide +kernel
theorem g_l_errors : ∀ x ∈ G_l_errors, GlOk (defScope s_l_errors) x = true := by decide +kernel
abbrev s_l_parts : Stmt := top 28
abbrev N_l_parts : List Str := ["_law_errors_here", "_law_found"]
abbrev P_l_parts : List Str := ["_law_errors_here"]
abbrev V_l_parts : List Str := ["_law_errors_here", "_law_found"]
abbrev L_l_parts : List Str := ["_law_errors_here", "_law_found"]
abbrev G_l_parts : List Str := []
theorem sc_l_parts : FnScope N_l_parts P_l_parts (defScope s_l_parts) :=
  ⟨rfl, rfl, rfl, by decide +kernel, rfl, by decide +kernel, by decide +kernel⟩
theorem v_l_parts : ∀ x ∈ V_l_parts, VisOk (defScope s_l_parts) x = true := by decide +kernel
theorem l_l_parts : ∀ x ∈ L_l_parts, LocOk (defScope s_l_parts) x = true := by decide +kernel
theorem g_l_parts : ∀ x ∈ G_l_parts, GlOk (defScope s_l_parts) x = true := by decide +kernel
abbrev s_law : Stmt := top 29
abbrev N_law : List Str := ["_law_script", "_law_bag_here", "_law_turn", "_law_part", "_law_errors_here", "_law_spot", "_law_k"]
abbrev P_law : List Str := ["_law_script"]
abbrev V_law : List Str := ["_law_script", "_law_bag_here", "_law_turn", "_law_part", "_law_errors_here", "_law_spot"]
abbrev L_law : List Str := ["_law_script", "_law_bag_here", "_law_turn", "_law_part", "_law_errors_here", "_law_spot"]
abbrev G_law : List Str := ["_law_bag", "range", "_law_draw", "_law_errors", "_law_mixed", "list", "len", "_law_kinds", "isinstance", "ClaimError", "ValueError", "_law_parts", "any"]
theorem sc_law : FnScope N_law P_law (defScope s_law) :=
  ⟨rfl, rfl, rfl, by decide +kernel, rfl, by decide +kernel, by decide +kernel⟩
theorem v_law : ∀ x ∈ V_law, VisOk (defScope s_law) x = true := by decide +kernel
theorem l_law : ∀ x ∈ L_law, LocOk (defScope s_law) x = true := by decide +kernel
theorem g_law : ∀ x ∈ G_law, GlOk (defScope s_law) x = true := by decide +kernel
/-- law, comprehension 0: _law_k -/
abbrev Vc_law_0 : List Str := ["_law_k", "_law_spot"]
abbrev Gc_law_0 : List Str := []
abbrev own_law_0 : List (Str × Nat) := [("_law_k", 6)]

abbrev BI : List Str := ["len", "int", "abs", "range", "list", "any", "isinstance", "ValueError"]
/-- a place in a list of names -/
local macro_rules | `(tactic| array_get_dec) => `(tactic| repeat (first | exact At.z | apply At.s))
/-- one step -/
local macro_rules | `(tactic| decreasing_trivial_pre_omega) => `(tactic| with_reducible first
  | (refine we_int ?_)
  | (refine we_bl ?_)
  | (refine we_non ?_)
  | (refine we_str ?_)
  | (refine dl_name (by assumption) (by array_get_dec) (by array_get_dec) (by with_unfolding_all rfl) ?_)
  | (refine dl_ixOwn (by assumption) (by array_get_dec) (by array_get_dec) (by with_unfolding_all rfl) (by with_unfolding_all exact fun _ _ => rfl) ?_)
  | (refine we_ix (by with_unfolding_all exact fun _ _ => rfl) ?_)
  | (refine WL.we (wl_cat (b := .List _ _) ?_))
  | (refine we_add ?_)
  | (refine we_sub ?_)
  | (refine WL.we (wl_rep (a := .List _ _) ?_)) | (refine wl_rep (a := .List _ _) ?_)
  | (refine we_muls ?_)
  | (refine we_neg ?_)
  | (refine we_mod ?_)
  | (refine we_fdiv ?_)
  | (refine we_pow ?_)
  | (refine we_lt ?_) | (refine we_le ?_) | (refine we_gt ?_) | (refine we_ge ?_)
  | (refine we_lele (by with_unfolding_all rfl) ?_) | (refine wt_lele (by with_unfolding_all rfl) ?_)
  | (refine wt_lt ?_) | (refine wt_le ?_) | (refine wt_gt ?_) | (refine wt_ge ?_) | (refine wt_eqI ?_)
  | (refine wt_neI ?_) | (refine wt_isN ?_) | (refine wt_notN ?_) | (refine we_isN ?_) | (refine we_notN ?_)
  | (refine wa_nil ?_)
  | (refine wa_cons ?_ (by with_unfolding_all rfl))
  | (refine dl_len (by assumption) (by assumption) (by array_get_dec) (by array_get_dec) (by with_unfolding_all rfl) ?_)
  | (refine dl_abs (by assumption) (by assumption) (by array_get_dec) (by array_get_dec) (by with_unfolding_all rfl) ?_)
  | (refine dl_int (by assumption) (by assumption) (by array_get_dec) (by array_get_dec) (by with_unfolding_all rfl) ?_)
  | (refine dl_min (by assumption) (by assumption) (by array_get_dec) (by array_get_dec) (by with_unfolding_all rfl) (by with_unfolding_all rfl) ?_)
  | (refine dl_max (by assumption) (by assumption) (by array_get_dec) (by array_get_dec) (by with_unfolding_all rfl) (by with_unfolding_all rfl) ?_)
  | (refine dl_isV (by assumption) (by assumption) (by array_get_dec) (by array_get_dec) (by with_unfolding_all rfl) (by with_unfolding_all rfl) ?_)
  | (refine dl_all (by assumption) (by assumption) (by array_get_dec) (by array_get_dec) (by with_unfolding_all rfl) ?_)
  | (refine dl_list (by assumption) (by assumption) (by array_get_dec) (by array_get_dec) (by with_unfolding_all rfl) ?_)
  | (refine dl_tuple (by assumption) (by assumption) (by array_get_dec) (by array_get_dec) (by with_unfolding_all rfl) ?_)
  | (refine dl_ty (by assumption) (by assumption) boot_int (by array_get_dec) (by array_get_dec) ?_)
  | (refine dl_ty (by assumption) (by assumption) boot_bool (by array_get_dec) (by array_get_dec) ?_)
  | (refine dl_ty (by assumption) (by assumption) boot_list (by array_get_dec) (by array_get_dec) ?_)
  | (refine dl_er0 (by assumption) (by assumption) (by array_get_dec) ?_)
  | (refine dl_er1 (by assumption) (by assumption) (by array_get_dec) (by decide) (by with_unfolding_all rfl) (by with_unfolding_all rfl) ?_)
  | (refine dl_pure (by assumption) (by assumption) (by array_get_dec) (by decide) (by with_unfolding_all rfl) (by with_unfolding_all rfl) ?_)
  | (refine dl_bag (by assumption) (by assumption) (by array_get_dec) (by decide) (by with_unfolding_all rfl) (by with_unfolding_all rfl) ?_)
  | (refine dl_glob (d := .ref _) (v := .ref _) (u := .ref _) (by assumption) (by array_get_dec) (by assumption) (by with_unfolding_all rfl) (by with_unfolding_all rfl) ?_)
  | (refine dl_glob (d := .int _) (v := .int _) (u := .int _ _) (by assumption) (by array_get_dec) (by assumption) (by with_unfolding_all exact ⟨_, rfl⟩) (by with_unfolding_all rfl) ?_)
  | (refine we_one ?_) | (refine we_eqI ?_) | (refine we_not ?_) | (refine we_and ?_) | (refine we_or ?_)
  | (refine wt_val ?_ (by with_unfolding_all exact fun _ => rfl))
  | (refine WL.we (wl_lst ?_)) | (refine WL.we (wl_slice ?_)) | (refine wl_lst ?_) | (refine wl_slice ?_) | (refine wl_cat ?_)
  | (refine wo_none ?_) | (refine wo_some ?_) | (refine we_tup ?_)
  | (refine wss_nil ?_)
  | (refine ws_ret ?_)
  | (refine ws_if ?_)
  | (refine WW.wt (ww_and ?_)) | (refine WW.wt (ww_or ?_))
  | (refine wt_not ?_)
  | (refine ww_and ?_) | (refine ww_or ?_) | (refine ww_and1 ?_) | (refine ww_or1 ?_)
  | (refine dl_set (by assumption) (by array_get_dec) (by array_get_dec) (by with_unfolding_all rfl) ?_)
  | (refine dl_setIx (by assumption) (by array_get_dec) (by array_get_dec) (by with_unfolding_all rfl) (by with_unfolding_all exact fun _ => rfl) (by with_unfolding_all rfl) (by with_unfolding_all rfl) (by with_unfolding_all rfl) ?_)
  | (refine ite_t ?_) | (refine ite_f ?_)
  | (refine ⟨(by simp : List.length _ ≤ 1000000), ?_⟩)
  | (with_unfolding_all refine ⟨_, rfl, ?_⟩))
section
variable {P : Program} {w : World} {K : PySem.W.Frag} {mg : Str → Option Value} {base : Heap} {f : Addr} {fd : FuncData}
theorem ok_iNoClass {C B : Addr} (F : Fun K "__init__" "NoClass.__init__" s_NoClass_init f fd) (hm : mg "ClaimError" = some (.ref B)) (ok : BaseOk K B) (T : OexC K C) (hno : PySem.W.findIn K (.ref C) "at" = some none) : FnOk P w K mg base (L2.CX P w) 1 f fd P_NoClass_init (spE K C "at") :=
  Fun.okErr F sc_NoClass_init rfl (fun _ => rfl) (by decide +kernel) (by decide +kernel) (by decide +kernel) hm ok T hno (by decide)
theorem ok_iBadClaims {C B : Addr} (F : Fun K "__init__" "BadClaims.__init__" s_BadClaims_init f fd) (hm : mg "ClaimError" = some (.ref B)) (ok : BaseOk K B) (T : OexC K C) (hno : PySem.W.findIn K (.ref C) "claims" = some none) : FnOk P w K mg base (L2.CX P w) 1 f fd P_BadClaims_init (spE K C "claims") :=
  Fun.okErr F sc_BadClaims_init rfl (fun _ => rfl) (by decide +kernel) (by decide +kernel) (by decide +kernel) hm ok T hno (by decide)
theorem ok_iTooMany {C B : Addr} (F : Fun K "__init__" "TooMany.__init__" s_TooMany_init f fd) (hm : mg "ClaimError" = some (.ref B)) (ok : BaseOk K B) (T : OexC K C) (hno : PySem.W.findIn K (.ref C) "count" = some none) : FnOk P w K mg base (L2.CX P w) 1 f fd P_TooMany_init (spE K C "count") :=
  Fun.okErr F sc_TooMany_init rfl (fun _ => rfl) (by decide +kernel) (by decide +kernel) (by decide +kernel) hm ok T hno (by decide)
theorem ok_iBadYears {C B : Addr} (F : Fun K "__init__" "BadYears.__init__" s_BadYears_init f fd) (hm : mg "ClaimError" = some (.ref B)) (ok : BaseOk K B) (T : OexC K C) (hno : PySem.W.findIn K (.ref C) "years" = some none) : FnOk P w K mg base (L2.CX P w) 1 f fd P_BadYears_init (spE K C "years") :=
  Fun.okErr F sc_BadYears_init rfl (fun _ => rfl) (by decide +kernel) (by decide +kernel) (by decide +kernel) hm ok T hno (by decide)
theorem ok_iNoPlace {C B : Addr} (F : Fun K "__init__" "NoPlace.__init__" s_NoPlace_init f fd) (hm : mg "ClaimError" = some (.ref B)) (ok : BaseOk K B) (T : OexC K C) (hno : PySem.W.findIn K (.ref C) "place" = some none) : FnOk P w K mg base (L2.CX P w) 1 f fd P_NoPlace_init (spE K C "place") :=
  Fun.okErr F sc_NoPlace_init rfl (fun _ => rfl) (by decide +kernel) (by decide +kernel) (by decide +kernel) hm ok T hno (by decide)
theorem ok_iBilled {C B : Addr} (F : Fun K "__init__" "Billed.__init__" s_Billed_init f fd) (hm : mg "ClaimError" = some (.ref B)) (ok : BaseOk K B) (T : OexC K C) (hno : PySem.W.findIn K (.ref C) "year" = some none) : FnOk P w K mg base (L2.CX P w) 1 f fd P_Billed_init (spE K C "year") :=
  Fun.okErr F sc_Billed_init rfl (fun _ => rfl) (by decide +kernel) (by decide +kernel) (by decide +kernel) hm ok T hno (by decide)
theorem ok_iNotBilled {C B : Addr} (F : Fun K "__init__" "NotBilled.__init__" s_NotBilled_init f fd) (hm : mg "ClaimError" = some (.ref B)) (ok : BaseOk K B) (T : OexC K C) (hno : PySem.W.findIn K (.ref C) "year" = some none) : FnOk P w K mg base (L2.CX P w) 1 f fd P_NotBilled_init (spE K C "year") :=
  Fun.okErr F sc_NotBilled_init rfl (fun _ => rfl) (by decide +kernel) (by decide +kernel) (by decide +kernel) hm ok T hno (by decide)
theorem ok_iBadName {C B : Addr} (F : Fun K "__init__" "BadName.__init__" s_BadName_init f fd) (hm : mg "ClaimError" = some (.ref B)) (ok : BaseOk K B) (T : OexC K C) (hno : PySem.W.findIn K (.ref C) "name" = some none) : FnOk P w K mg base (L2.CX P w) 1 f fd P_BadName_init (spE K C "name") :=
  Fun.okErr F sc_BadName_init rfl (fun _ => rfl) (by decide +kernel) (by decide +kernel) (by decide +kernel) hm ok T hno (by decide)
theorem ok_iNameTaken {C B : Addr} (F : Fun K "__init__" "NameTaken.__init__" s_NameTaken_init f fd) (hm : mg "ClaimError" = some (.ref B)) (ok : BaseOk K B) (T : OexC K C) (hno : PySem.W.findIn K (.ref C) "name" = some none) : FnOk P w K mg base (L2.CX P w) 1 f fd P_NameTaken_init (spE K C "name") :=
  Fun.okErr F sc_NameTaken_init rfl (fun _ => rfl) (by decide +kernel) (by decide +kernel) (by decide +kernel) hm ok T hno (by decide)
theorem ok_iNoPolicy {C B : Addr} (F : Fun K "__init__" "NoPolicy.__init__" s_NoPolicy_init f fd) (hm : mg "ClaimError" = some (.ref B)) (ok : BaseOk K B) (T : OexC K C) (hno : PySem.W.findIn K (.ref C) "name" = some none) : FnOk P w K mg base (L2.CX P w) 1 f fd P_NoPolicy_init (spE K C "name") :=
  Fun.okErr F sc_NoPolicy_init rfl (fun _ => rfl) (by decide +kernel) (by decide +kernel) (by decide +kernel) hm ok T hno (by decide)
end
end My
set_option Elab.async false
set_option linter.all false
set_option maxRecDepth 100000
set_option autoImplicit false
set_option pp.deepTerms false
set_option pp.deepTerms.threshold 7
set_option pp.maxSteps 3000
set_option maxHeartbeats 1600000
namespace My
open PySem L2 DL
/-- a place in a list of names -/
local macro_rules | `(tactic| array_get_dec) => `(tactic| repeat (first | exact At.z | apply At.s))
/-- one step -/
local macro_rules | `(tactic| decreasing_trivial_pre_omega) => `(tactic| with_reducible first
  | (refine we_int ?_)
  | (refine we_bl ?_)
  | (refine we_non ?_)
  | (refine we_str ?_)
  | (refine dl_name (by assumption) (by array_get_dec) (by array_get_dec) (by with_unfolding_all rfl) ?_)
  | (refine dl_ixOwn (by assumption) (by array_get_dec) (by array_get_dec) (by with_unfolding_all rfl) (by with_unfolding_all exact fun _ _ => rfl) ?_)
  | (refine we_ix (by with_unfolding_all exact fun _ _ => rfl) ?_)
  | (refine we_add ?_)
  | (refine we_sub ?_)
  | (refine we_muls ?_)
  | (refine we_mod ?_)
  | (refine we_fdiv ?_)
  | (refine we_pow ?_)
  | (refine we_lt ?_) | (refine we_le ?_) | (refine we_gt ?_) | (refine we_ge ?_)
  | (refine we_lele (by with_unfolding_all rfl) ?_) | (refine wt_lele (by with_unfolding_all rfl) ?_)
  | (refine wt_lt ?_) | (refine wt_le ?_) | (refine wt_gt ?_) | (refine wt_ge ?_) | (refine wt_eqI ?_)
  | (refine wt_neI ?_) | (refine wt_isN ?_) | (refine wt_notN ?_) | (refine we_isN ?_) | (refine we_notN ?_)
  | (refine wa_nil ?_)
  | (refine wa_cons ?_ (by with_unfolding_all rfl))
  | (refine dl_len (by assumption) (by assumption) (by array_get_dec) (by array_get_dec) (by with_unfolding_all rfl) ?_)
  | (refine dl_abs (by assumption) (by assumption) (by array_get_dec) (by array_get_dec) (by with_unfolding_all rfl) ?_)
  | (refine dl_int (by assumption) (by assumption) (by array_get_dec) (by array_get_dec) (by with_unfolding_all rfl) ?_)
  | (refine dl_min (by assumption) (by assumption) (by array_get_dec) (by array_get_dec) (by with_unfolding_all rfl) (by with_unfolding_all rfl) ?_)
  | (refine dl_max (by assumption) (by assumption) (by array_get_dec) (by array_get_dec) (by with_unfolding_all rfl) (by with_unfolding_all rfl) ?_)
  | (refine dl_isi (by assumption) (by assumption) (by array_get_dec) (by array_get_dec) (by with_unfolding_all rfl) (by with_unfolding_all rfl) ?_)
  | (refine dl_all (by assumption) (by assumption) (by array_get_dec) (by array_get_dec) (by with_unfolding_all rfl) ?_)
  | (refine dl_list (by assumption) (by assumption) (by array_get_dec) (by array_get_dec) (by with_unfolding_all rfl) ?_)
  | (refine dl_tuple (by assumption) (by assumption) (by array_get_dec) (by array_get_dec) (by with_unfolding_all rfl) ?_)
  | (refine dl_ty (by assumption) (by assumption) boot_int (by array_get_dec) (by array_get_dec) ?_)
  | (refine dl_ty (by assumption) (by assumption) boot_bool (by array_get_dec) (by array_get_dec) ?_)
  | (refine dl_ty (by assumption) (by assumption) boot_list (by array_get_dec) (by array_get_dec) ?_)
  | (refine dl_pure (by assumption) (by assumption) (by array_get_dec) (by decide) (by with_unfolding_all rfl) (by with_unfolding_all rfl) ?_)
  | (refine dl_bag (by assumption) (by assumption) (by array_get_dec) (by decide) (by with_unfolding_all rfl) (by with_unfolding_all rfl) ?_)
  | (refine dl_glob (d := .int _) (v := .int _) (u := .int _ _) (by assumption) (by array_get_dec) (by assumption) (by with_unfolding_all exact ⟨_, rfl⟩) (by with_unfolding_all rfl) ?_)
  | (refine we_one ?_) | (refine we_eqI ?_) | (refine we_not ?_) | (refine we_and ?_) | (refine we_or ?_)
  | (refine wt_val ?_ (by with_unfolding_all exact fun _ => rfl))
  | (refine wss_nil ?_)
  | (refine ws_ret ?_)
  | (refine ws_if ?_)
  | (refine WW.wt (ww_and ?_)) | (refine WW.wt (ww_or ?_))
  | (refine wt_not ?_)
  | (refine ww_and ?_) | (refine ww_or ?_) | (refine ww_and1 ?_) | (refine ww_or1 ?_)
  | (refine dl_set (by assumption) (by array_get_dec) (by array_get_dec) (by with_unfolding_all rfl) ?_)
  | (refine dl_setIx (by assumption) (by array_get_dec) (by array_get_dec) (by with_unfolding_all rfl) (by with_unfolding_all exact fun _ => rfl) (by with_unfolding_all rfl) (by with_unfolding_all rfl) (by with_unfolding_all rfl) ?_)
  | (refine ite_t ?_) | (refine ite_f ?_)
  | (with_unfolding_all refine ⟨_, rfl, ?_⟩))
theorem atI_ints {ns : List Int} {i : Nat} {z : Int} (h : ns[i]? = some z) : atI (ns.map D.int) (i : Int) = some (.int z) := atI_nat (by rw [List.getElem?_map, h]; rfl)
theorem cmul_bit {x : Int} {b : Bool} : CMul x (if b then 1 else 0) := .inr (by cases b <;> decide)
theorem draw_size {z : Int} (hz : z.natAbs < 2 ^ 1090000) {s t : Bool} :
    0 ≤ (2 * (if z < 0 then -z else z) + if s then 1 else 0) * (if t then 1 else 0) ∧ ((2 * (if z < 0 then -z else z) + if s then 1 else 0) * (if t then 1 else 0)).natAbs < 2 ^ 1100000 := by
  have e : (2 : Nat) ^ 1090000 * 2 ^ 2 ≤ 2 ^ 1100000 := by rw [← Nat.pow_add]; exact Nat.pow_le_pow_right (by decide) (by decide)
  generalize (2 : Nat) ^ 1090000 = B at hz e
  generalize (2 : Nat) ^ 1100000 = B2 at e ⊢
  have h0 : (if z < 0 then -z else z) = (z.natAbs : Int) := by split <;> omega
  rw [h0]
  cases s <;> cases t <;> simp <;> omega
theorem log2_small {n : Int} (h1 : 1 ≤ n) (h : n < 2 ^ 4000) : n.natAbs.log2 < 9000 := by
  refine Nat.lt_of_lt_of_le (PySem.Flt.log2_lt_of (k := 4000) (by decide) ?_) (by decide)
  have e : ((2 : Int) ^ 4000) = ((2 ^ 4000 : Nat) : Int) := by simp
  rw [e] at h
  generalize (2 : Nat) ^ 4000 = B at h ⊢
  omega
section
variable {P : Program} {w : World} {K : PySem.W.Frag} {mg : Str → Option Value} {base : Heap} {f : Addr} {fd : FuncData}
theorem ok_draw (F : Fun K "_law_draw" "_law_draw" s_l_draw f fd) (bn : NoMg mg BI) : FnOk P w K mg base (L2.CX P w) 1 f fd P_l_draw (spB K 2 A_draw) := by
  refine Fun.okDraw2 (Vn := V_l_draw) (L := L_l_draw) (G := G_l_draw) F sc_l_draw rfl v_l_draw l_l_draw g_l_draw fun X n ns i q g c Q dx hn1 hn2 hq0 hq1 hns hQ b l => ?_
  refine wss_cons ?_
  repeat decreasing_trivial_pre_omega
  refine wss_cut (fun env' => ∃ (i : Nat) (q g : Int) (o : Option Slot), env' = [some (.own b (.lst (bagD l ns i q g (c + 1)))), some (.frz (.int n)), o, none, none] ∧ 0 ≤ q ∧ q.natAbs < 2 ^ 1100000) ?_ ?_
  · repeat decreasing_trivial_pre_omega
    refine ite_d (fun hq => ?_) (fun hq => ?_)
    · repeat decreasing_trivial_pre_omega
      refine ite_d (fun hi => ?_) (fun hi => ?_)
      · have hi' : i < ns.length := by rw [List.length_map] at hi; omega
        have hz := hns _ (List.getElem_mem hi')
        generalize hzz : ns[i] = z at hz
        refine wss_cons ?_
        repeat decreasing_trivial_pre_omega
        refine ⟨.int z, atI_ints (by rw [List.getElem?_eq_getElem hi', hzz]), ?_⟩
        refine wss_cons ?_
        repeat decreasing_trivial_pre_omega
        refine wss_cons ?_
        repeat decreasing_trivial_pre_omega
        refine ⟨.inl (by decide), ?_⟩
        repeat decreasing_trivial_pre_omega
        refine ⟨⟨by decide, by decide, by decide⟩, ?_⟩
        repeat decreasing_trivial_pre_omega
        refine ⟨cmul_bit, ?_⟩
        repeat decreasing_trivial_pre_omega
        refine wss_cons ?_
        repeat decreasing_trivial_pre_omega
        refine ⟨.inr (by decide), ?_⟩
        repeat decreasing_trivial_pre_omega
        refine ⟨.inr (by decide), ?_⟩
        repeat decreasing_trivial_pre_omega
        refine ⟨by decide, ?_⟩
        repeat decreasing_trivial_pre_omega
        obtain ⟨h1, h2⟩ := draw_size hz
        exact ⟨i + 1, _, _, _, rfl, h1, h2⟩
      · repeat decreasing_trivial_pre_omega
        exact ⟨i, q, g, none, rfl, hq0, hq1⟩
    · repeat decreasing_trivial_pre_omega
      exact ⟨i, q, g, none, rfl, hq0, hq1⟩
  · rintro env' ⟨i, q, g, o, rfl, hq0, hq1⟩
    refine wss_cons ?_
    repeat decreasing_trivial_pre_omega
    refine ⟨by omega, ?_⟩
    refine wss_cons ?_
    repeat decreasing_trivial_pre_omega
    refine ite_d (fun hq => ?_) (fun hq => ?_)
    · refine wss_cons ?_
      repeat decreasing_trivial_pre_omega
      refine ⟨⟨by omega, log2_small hn1 hn2⟩, ?_⟩
      repeat decreasing_trivial_pre_omega
      refine wss_cons ?_
      repeat decreasing_trivial_pre_omega
      refine ⟨⟨i, q / n, g, c + 1, rfl, Int.ediv_nonneg hq0 (by omega), ?_⟩, _, rfl, hQ _ (Int.emod_nonneg _ (by omega)) (Int.emod_lt_of_pos _ (by omega))⟩
      refine Nat.lt_of_le_of_lt ?_ hq1
      have h1 : q / n ≤ q := Int.ediv_le_self _ hq0
      have h2 : 0 ≤ q / n := Int.ediv_nonneg hq0 (by omega)
      omega
    · repeat decreasing_trivial_pre_omega
      refine wss_cons ?_
      repeat decreasing_trivial_pre_omega
      refine ⟨.inr (by decide), ?_⟩
      repeat decreasing_trivial_pre_omega
      refine ⟨by decide, ?_⟩
      have hm0 := Int.emod_nonneg (g + (c + 1) * 40692) (show (2147483647 : Int) ≠ 0 by decide)
      have hm1 := Int.emod_lt_of_pos (g + (c + 1) * 40692) (show (0 : Int) < 2147483647 by decide)
      generalize (g + (c + 1) * 40692) % 2147483647 = u at hm0 hm1
      refine wss_cons ?_
      repeat decreasing_trivial_pre_omega
      refine ⟨⟨by decide, by decide, by omega⟩, ?_⟩
      repeat decreasing_trivial_pre_omega
      refine ⟨.inr (by decide), ?_⟩
      repeat decreasing_trivial_pre_omega
      refine ⟨by decide, ?_⟩
      have hm2 := Int.emod_nonneg (u ^ Int.toNat 3 + (c + 1) * 16807 + 7) (show (2147483629 : Int) ≠ 0 by decide)
      have hm3 := Int.emod_lt_of_pos (u ^ Int.toNat 3 + (c + 1) * 16807 + 7) (show (0 : Int) < 2147483629 by decide)
      generalize (u ^ Int.toNat 3 + (c + 1) * 16807 + 7) % 2147483629 = u2 at hm2 hm3
      refine wss_cons ?_
      repeat decreasing_trivial_pre_omega
      refine ⟨⟨by decide, by decide, by omega⟩, ?_⟩
      repeat decreasing_trivial_pre_omega
      refine ⟨by decide, ?_⟩
      repeat decreasing_trivial_pre_omega
      refine ⟨⟨by decide, by decide +kernel⟩, ?_⟩
      repeat decreasing_trivial_pre_omega
      refine ⟨by omega, ?_⟩
      exact ⟨⟨i, q, g, c + 1, rfl, hq0, hq1⟩, _, rfl, hQ _ (Int.emod_nonneg _ (by omega)) (Int.emod_lt_of_pos _ (by omega))⟩
end
end My
set_option Elab.async false
set_option linter.all false
set_option maxRecDepth 100000
set_option autoImplicit false
set_option pp.deepTerms false
set_option pp.deepTerms.threshold 7
set_option pp.maxSteps 3000
set_option maxHeartbeats 1600000
namespace My
open PySem L2 DL
/-- a place in a list of names -/
local macro_rules | `(tactic| array_get_dec) => `(tactic| repeat (first | exact At.z | apply At.s))
/-- one step -/
local macro_rules | `(tactic| decreasing_trivial_pre_omega) => `(tactic| with_reducible first
  | (refine we_int ?_)
  | (refine we_bl ?_)
  | (refine we_non ?_)
  | (refine we_str ?_)
  | (refine dl_name (by assumption) (by array_get_dec) (by array_get_dec) (by with_unfolding_all rfl) ?_)
  | (refine dl_ixOwn (by assumption) (by array_get_dec) (by array_get_dec) (by with_unfolding_all rfl) (by with_unfolding_all exact fun _ _ => rfl) ?_)
  | (refine we_ix (by with_unfolding_all exact fun _ _ => rfl) ?_)
  | (refine WL.we (wl_cat (b := .List _ _) ?_))
  | (refine we_add ?_)
  | (refine we_sub ?_)
  | (refine WL.we (wl_rep (a := .List _ _) ?_)) | (refine wl_rep (a := .List _ _) ?_)
  | (refine we_muls ?_)
  | (refine we_neg ?_)
  | (refine we_mod ?_)
  | (refine we_fdiv ?_)
  | (refine we_pow ?_)
  | (refine we_lt ?_) | (refine we_le ?_) | (refine we_gt ?_) | (refine we_ge ?_)
  | (refine we_lele (by with_unfolding_all rfl) ?_) | (refine wt_lele (by with_unfolding_all rfl) ?_)
  | (refine wt_lt ?_) | (refine wt_le ?_) | (refine wt_gt ?_) | (refine wt_ge ?_) | (refine wt_eqI ?_)
  | (refine wt_neI ?_) | (refine wt_isN ?_) | (refine wt_notN ?_) | (refine we_isN ?_) | (refine we_notN ?_)
  | (refine wa_nil ?_)
  | (refine wa_cons ?_ (by with_unfolding_all rfl))
  | (refine dl_len (by assumption) (by assumption) (by array_get_dec) (by array_get_dec) (by with_unfolding_all rfl) ?_)
  | (refine dl_abs (by assumption) (by assumption) (by array_get_dec) (by array_get_dec) (by with_unfolding_all rfl) ?_)
  | (refine dl_int (by assumption) (by assumption) (by array_get_dec) (by array_get_dec) (by with_unfolding_all rfl) ?_)
  | (refine dl_min (by assumption) (by assumption) (by array_get_dec) (by array_get_dec) (by with_unfolding_all rfl) (by with_unfolding_all rfl) ?_)
  | (refine dl_max (by assumption) (by assumption) (by array_get_dec) (by array_get_dec) (by with_unfolding_all rfl) (by with_unfolding_all rfl) ?_)
  | (refine dl_isV (by assumption) (by assumption) (by array_get_dec) (by array_get_dec) (by with_unfolding_all rfl) (by with_unfolding_all rfl) ?_)
  | (refine dl_all (by assumption) (by assumption) (by array_get_dec) (by array_get_dec) (by with_unfolding_all rfl) ?_)
  | (refine dl_list (by assumption) (by assumption) (by array_get_dec) (by array_get_dec) (by with_unfolding_all rfl) ?_)
  | (refine dl_tuple (by assumption) (by assumption) (by array_get_dec) (by array_get_dec) (by with_unfolding_all rfl) ?_)
  | (refine dl_ty (by assumption) (by assumption) boot_int (by array_get_dec) (by array_get_dec) ?_)
  | (refine dl_ty (by assumption) (by assumption) boot_bool (by array_get_dec) (by array_get_dec) ?_)
  | (refine dl_ty (by assumption) (by assumption) boot_list (by array_get_dec) (by array_get_dec) ?_)
  | (refine dl_er0 (by assumption) (by assumption) (by array_get_dec) ?_)
  | (refine dl_er1 (by assumption) (by assumption) (by array_get_dec) (by decide) (by with_unfolding_all rfl) (by with_unfolding_all rfl) ?_)
  | (refine dl_pure (by assumption) (by assumption) (by array_get_dec) (by decide) (by with_unfolding_all rfl) (by with_unfolding_all rfl) ?_)
  | (refine dl_bag (by assumption) (by assumption) (by array_get_dec) (by decide) (by with_unfolding_all rfl) (by with_unfolding_all rfl) ?_)
  | (refine dl_glob (d := .ref _) (v := .ref _) (u := .ref _) (by assumption) (by array_get_dec) (by assumption) (by with_unfolding_all rfl) (by with_unfolding_all rfl) ?_)
  | (refine dl_glob (d := .int _) (v := .int _) (u := .int _ _) (by assumption) (by array_get_dec) (by assumption) (by with_unfolding_all exact ⟨_, rfl⟩) (by with_unfolding_all rfl) ?_)
  | (refine we_one ?_) | (refine we_eqI ?_) | (refine we_not ?_) | (refine we_and ?_) | (refine we_or ?_)
  | (refine wt_val ?_ (by with_unfolding_all exact fun _ => rfl))
  | (refine WL.we (wl_lst ?_)) | (refine WL.we (wl_slice ?_)) | (refine wl_lst ?_) | (refine wl_slice ?_) | (refine wl_cat ?_)
  | (refine wo_none ?_) | (refine wo_some ?_) | (refine we_tup ?_)
  | (refine wss_nil ?_)
  | (refine ws_ret ?_)
  | (refine ws_if ?_)
  | (refine WW.wt (ww_and ?_)) | (refine WW.wt (ww_or ?_))
  | (refine wt_not ?_)
  | (refine ww_and ?_) | (refine ww_or ?_) | (refine ww_and1 ?_) | (refine ww_or1 ?_)
  | (refine dl_set (by assumption) (by array_get_dec) (by array_get_dec) (by with_unfolding_all rfl) ?_)
  | (refine dl_setIx (by assumption) (by array_get_dec) (by array_get_dec) (by with_unfolding_all rfl) (by with_unfolding_all exact fun _ => rfl) (by with_unfolding_all rfl) (by with_unfolding_all rfl) (by with_unfolding_all rfl) ?_)
  | (refine ite_t ?_) | (refine ite_f ?_)
  | (refine ⟨(by simp : List.length _ ≤ 1000000), ?_⟩)
  | (with_unfolding_all refine ⟨_, rfl, ?_⟩))

theorem at_all {ds : List D} {r : Int} {Q : D → Prop} (h0 : 0 ≤ r) (h1 : r < ds.length) (h : ∀ d ∈ ds, Q d) : ∃ d, atI ds r = some d ∧ Q d := by
  obtain ⟨j, rfl⟩ := Int.eq_ofNat_of_zero_le h0
  have hj : j < ds.length := by omega
  exact ⟨ds[j], atI_nat (List.getElem?_eq_getElem hj), h _ (List.getElem_mem hj)⟩
theorem draw_le {n : Int} (h : n ≤ 1000000) : n < 2 ^ 4000 := Int.lt_of_le_of_lt h (by decide +kernel)
theorem ix_nat {n k : Nat} (h : k < n) : seqIndex? (k : Int) n = some k := by
  unfold seqIndex?
  have e : (if ((k : Nat) : Int) < 0 then (k : Int) + n else (k : Int)) = k := if_neg (by omega)
  simp only [e]
  rw [if_pos (by simp; omega)]
  rfl
theorem erase_perm : ∀ {α : Type} {l : List α} {k : Nat} {u : α}, l[k]? = some u → (u :: l.eraseIdx k).Perm l
  | _, [], k, u, h => by simp at h
  | _, a :: l, 0, u, h => by simp at h; subst h; exact .refl _
  | _, a :: l, k + 1, u, h => by
    rw [List.eraseIdx_cons_succ]
    exact (List.Perm.swap a u _).trans (.cons a (erase_perm (by simpa using h)))
def A_mixed (ds : List D) (P : D → Prop) : Prop := ∃ xs : List D, ds = [.lst xs] ∧ xs.length ≤ 1000 ∧ ∀ ys : List D, ys.Perm xs → P (.lst ys)
section
variable {P : Program} {w : World} {K : PySem.W.Frag} {mg : Str → Option Value} {base : Heap} {f : Addr} {fd : FuncData}
theorem ok_mixed (F : Fun K "_law_mixed" "_law_mixed" s_l_mixed f fd) (bn : NoMg mg BI) (f1 : FnAt P w K mg base "_law_draw" 1 P_l_draw (spB K 2 A_draw)) : FnOk P w K mg base (L2.CX P w) 2 f fd P_l_mixed (spB K 2 A_mixed) := by
  refine Fun.okB2 (Vn := V_l_mixed) (L := L_l_mixed) (G := G_l_mixed) F sc_l_mixed v_l_mixed l_l_mixed g_l_mixed fun X b ds Q dx hl hA => ?_
  obtain ⟨xs, rfl, hx, q⟩ := hA
  refine wss_cons ?_
  refine dl_setL (by assumption) (by array_get_dec) (by array_get_dec) (by with_unfolding_all rfl) ?_
  repeat decreasing_trivial_pre_omega
  intro p0
  refine wss_cons ?_
  refine dl_setL (by assumption) (by array_get_dec) (by array_get_dec) (by with_unfolding_all rfl) ?_
  repeat decreasing_trivial_pre_omega
  intro p1
  refine wss_cut (fun ev => ∃ (ys : List D) (o4 : Option Slot), ys.Perm xs ∧ ev = [some (.frz (.ref b)), some (.frz (.lst xs)), some (.own p0 (.lst [])), some (.own p1 (.lst ys)), o4]) ?_ ?_
  · refine dl_forR 4 (by assumption) (by assumption) (by array_get_dec) (by array_get_dec) (by array_get_dec) (by array_get_dec) (by with_unfolding_all rfl) (by with_unfolding_all exact fun _ => rfl) ?_
    repeat decreasing_trivial_pre_omega
    refine ⟨⟨by omega, by omega⟩, fun i ev => ∃ (ys zs : List D) (o4 : Option Slot), (ys ++ zs).Perm xs ∧ ys.length = i ∧ ev = [some (.frz (.ref b)), some (.frz (.lst xs)), some (.own p0 (.lst zs)), some (.own p1 (.lst ys)), o4], ⟨[], xs, none, .refl _, rfl, by with_unfolding_all rfl⟩, ?_, ?_⟩
    · rintro i ev hi ⟨ys, zs, o4, hp, hy, rfl⟩
      have hlen := hp.length_eq
      rw [List.length_append] at hlen
      refine wss_cons ?_
      refine dl_appPop (i := 3) (j := 2) (by assumption) (by array_get_dec) (by array_get_dec) (by array_get_dec) (by array_get_dec) (by decide) (by with_unfolding_all exact fun h1 h2 => pe_bm PySem.F.plainAttrs_list PySem.F.slot_list_append PySem.F.type_list_append mt_append h1 h2) (by with_unfolding_all exact fun h1 h2 => pe_bm PySem.F.plainAttrs_list PySem.F.slot_list_pop PySem.F.type_list_pop mt_popAt h1 h2) (by with_unfolding_all rfl) (by with_unfolding_all rfl) (by with_unfolding_all rfl) (by with_unfolding_all rfl) (by with_unfolding_all rfl) (by omega) ?_
      refine dl_bag (by assumption) (by assumption) (by array_get_dec) (by decide) (by with_unfolding_all rfl) (by with_unfolding_all rfl) ?_
      refine wa_cons (dl_name (by assumption) (by array_get_dec) (by array_get_dec) (by with_unfolding_all rfl) ?_) (by with_unfolding_all rfl)
      refine wa_cons (dl_lenOwn (by assumption) (by assumption) (by array_get_dec) (by array_get_dec) (by array_get_dec) (by array_get_dec) (by with_unfolding_all rfl) ?_) (by with_unfolding_all rfl)
      refine wa_nil ⟨rfl, _, rfl, zs.length, rfl, by omega, draw_le (by omega), fun r h0 h1 => ?_⟩
      obtain ⟨k, rfl⟩ := Int.eq_ofNat_of_zero_le h0
      have hk : k < zs.length := by omega
      refine ⟨k, zs[k], by omega, by omega, ix_nat hk, List.getElem?_eq_getElem hk, ?_⟩
      refine wss_nil ⟨ys ++ [zs[k]], zs.eraseIdx k, some (.frz (.int i)), ?_, by rw [List.length_append, hy]; rfl, by with_unfolding_all rfl⟩
      refine List.Perm.trans ?_ hp
      rw [List.append_assoc]
      exact List.Perm.append_left _ (erase_perm (List.getElem?_eq_getElem hk))
    · rintro ev ⟨ys, zs, o4, hp, hy, rfl⟩
      have hlen := hp.length_eq
      rw [List.length_append] at hlen
      have hz : zs = [] := List.length_eq_zero_iff.mp (by omega)
      subst hz
      rw [List.append_nil] at hp
      exact ⟨ys, o4, hp, rfl⟩
  · rintro ev ⟨ys, o4, hp, rfl⟩
    refine wss_cons ?_
    refine dl_retOwn (by assumption) (by array_get_dec) (by array_get_dec) (by with_unfolding_all rfl) ?_
    exact q ys hp
end
end My
set_option Elab.async false
set_option linter.all false
set_option maxRecDepth 100000
set_option autoImplicit false
set_option pp.deepTerms false
set_option pp.deepTerms.threshold 7
set_option pp.maxSteps 3000
set_option maxHeartbeats 1600000
namespace My
open PySem L2 DL
/-- a place in a list of names -/
local macro_rules | `(tactic| array_get_dec) => `(tactic| repeat (first | exact At.z | apply At.s))
/-- one step -/
local macro_rules | `(tactic| decreasing_trivial_pre_omega) => `(tactic| with_reducible first
  | (refine we_int ?_)
  | (refine we_bl ?_)
  | (refine we_non ?_)
  | (refine we_str ?_)
  | (refine dl_name (by assumption) (by array_get_dec) (by array_get_dec) (by with_unfolding_all rfl) ?_)
  | (refine dl_ixOwn (by assumption) (by array_get_dec) (by array_get_dec) (by with_unfolding_all rfl) (by with_unfolding_all exact fun _ _ => rfl) ?_)
  | (refine we_ix (by with_unfolding_all exact fun _ _ => rfl) ?_)
  | (refine WL.we (wl_cat (b := .List _ _) ?_))
  | (refine we_add ?_)
  | (refine we_sub ?_)
  | (refine WL.we (wl_rep (a := .List _ _) ?_)) | (refine wl_rep (a := .List _ _) ?_)
  | (refine we_muls ?_)
  | (refine we_neg ?_)
  | (refine we_mod ?_)
  | (refine we_fdiv ?_)
  | (refine we_pow ?_)
  | (refine we_lt ?_) | (refine we_le ?_) | (refine we_gt ?_) | (refine we_ge ?_)
  | (refine we_lele (by with_unfolding_all rfl) ?_) | (refine wt_lele (by with_unfolding_all rfl) ?_)
  | (refine wt_lt ?_) | (refine wt_le ?_) | (refine wt_gt ?_) | (refine wt_ge ?_) | (refine wt_eqI ?_)
  | (refine wt_neI ?_) | (refine wt_isN ?_) | (refine wt_notN ?_) | (refine we_isN ?_) | (refine we_notN ?_)
  | (refine wa_nil ?_)
  | (refine wa_cons ?_ (by with_unfolding_all rfl))
  | (refine dl_len (by assumption) (by assumption) (by array_get_dec) (by array_get_dec) (by with_unfolding_all rfl) ?_)
  | (refine dl_abs (by assumption) (by assumption) (by array_get_dec) (by array_get_dec) (by with_unfolding_all rfl) ?_)
  | (refine dl_int (by assumption) (by assumption) (by array_get_dec) (by array_get_dec) (by with_unfolding_all rfl) ?_)
  | (refine dl_min (by assumption) (by assumption) (by array_get_dec) (by array_get_dec) (by with_unfolding_all rfl) (by with_unfolding_all rfl) ?_)
  | (refine dl_max (by assumption) (by assumption) (by array_get_dec) (by array_get_dec) (by with_unfolding_all rfl) (by with_unfolding_all rfl) ?_)
  | (refine dl_isV (by assumption) (by assumption) (by array_get_dec) (by array_get_dec) (by with_unfolding_all rfl) (by with_unfolding_all rfl) ?_)
  | (refine dl_all (by assumption) (by assumption) (by array_get_dec) (by array_get_dec) (by with_unfolding_all rfl) ?_)
  | (refine dl_list (by assumption) (by assumption) (by array_get_dec) (by array_get_dec) (by with_unfolding_all rfl) ?_)
  | (refine dl_tuple (by assumption) (by assumption) (by array_get_dec) (by array_get_dec) (by with_unfolding_all rfl) ?_)
  | (refine dl_ty (by assumption) (by assumption) boot_int (by array_get_dec) (by array_get_dec) ?_)
  | (refine dl_ty (by assumption) (by assumption) boot_bool (by array_get_dec) (by array_get_dec) ?_)
  | (refine dl_ty (by assumption) (by assumption) boot_list (by array_get_dec) (by array_get_dec) ?_)
  | (refine dl_er0 (by assumption) (by assumption) (by array_get_dec) ?_)
  | (refine dl_er1 (by assumption) (by assumption) (by array_get_dec) (by decide) (by with_unfolding_all rfl) (by with_unfolding_all rfl) ?_)
  | (refine dl_pure (by assumption) (by assumption) (by array_get_dec) (by decide) (by with_unfolding_all rfl) (by with_unfolding_all rfl) ?_)
  | (refine dl_bag (by assumption) (by assumption) (by array_get_dec) (by decide) (by with_unfolding_all rfl) (by with_unfolding_all rfl) ?_)
  | (refine dl_glob (d := .ref _) (v := .ref _) (u := .ref _) (by assumption) (by array_get_dec) (by assumption) (by with_unfolding_all rfl) (by with_unfolding_all rfl) ?_)
  | (refine dl_glob (d := .int _) (v := .int _) (u := .int _ _) (by assumption) (by array_get_dec) (by assumption) (by with_unfolding_all exact ⟨_, rfl⟩) (by with_unfolding_all rfl) ?_)
  | (refine we_one ?_) | (refine we_eqI ?_) | (refine we_not ?_) | (refine we_and ?_) | (refine we_or ?_)
  | (refine wt_val ?_ (by with_unfolding_all exact fun _ => rfl))
  | (refine WL.we (wl_lst ?_)) | (refine WL.we (wl_slice ?_)) | (refine wl_lst ?_) | (refine wl_slice ?_) | (refine wl_cat ?_)
  | (refine wo_none ?_) | (refine wo_some ?_) | (refine we_tup ?_)
  | (refine wss_nil ?_)
  | (refine ws_ret ?_)
  | (refine ws_if ?_)
  | (refine WW.wt (ww_and ?_)) | (refine WW.wt (ww_or ?_))
  | (refine wt_not ?_)
  | (refine ww_and ?_) | (refine ww_or ?_) | (refine ww_and1 ?_) | (refine ww_or1 ?_)
  | (refine dl_set (by assumption) (by array_get_dec) (by array_get_dec) (by with_unfolding_all rfl) ?_)
  | (refine dl_setIx (by assumption) (by array_get_dec) (by array_get_dec) (by with_unfolding_all rfl) (by with_unfolding_all exact fun _ => rfl) (by with_unfolding_all rfl) (by with_unfolding_all rfl) (by with_unfolding_all rfl) ?_)
  | (refine ite_t ?_) | (refine ite_f ?_)
  | (refine ⟨(by simp : List.length _ ≤ 1000000), ?_⟩)
  | (with_unfolding_all refine ⟨_, rfl, ?_⟩))

/-! ### the kinds of an error -/
def klist (b : Nat → Bool) : List D := [.bl (b 0), .bl (b 1), .bl (b 2), .bl (b 3), .bl (b 4), .bl (b 5), .bl (b 6), .bl (b 7), .bl (b 8), .bl (b 9), .bl (b 10), .bl (b 11), .bl (b 12), .bl (b 13), .bl (b 14), .bl (b 15), .bl (b 16), .bl (b 17), .bl (b 18), .bl (b 19)]

/-- the twenty classes, in the law's order -/
structure Kinds (K : PySem.W.Frag) (Cs : List Addr) (C : Addr) (b : Nat → Bool) : Prop where
  exc : ExcC K C
  kit : ∀ (j : Nat) (D : Addr), Cs[j]? = some D → PySem.W.kitOne K (.ref C) (.ref D) = some (b j)
def A_kinds (K : PySem.W.Frag) (Cs : List Addr) (ds : List D) (P : D → Prop) : Prop := ∃ (x : D) (C : Addr) (b : Nat → Bool), ds = [x] ∧ x.errOf = some C ∧ Kinds K Cs C b ∧ P (.lst (klist b))
section
variable {P : Program} {w : World} {K : PySem.W.Frag} {mg : Str → Option Value} {base : Heap} {f : Addr} {fd : FuncData} {c0 c1 c2 c3 c4 c5 c6 c7 c8 c9 c10 c11 c12 c13 c14 c15 c16 c17 c18 c19 CE : Addr}
theorem ok_kinds (F : Fun K "_law_kinds" "_law_kinds" s_l_kinds f fd) (bn : NoMg mg BI) (m0 : mg "BadPremiums" = some (.ref c0)) (m1 : mg "BadTable" = some (.ref c1)) (m2 : mg "BadSteps" = some (.ref c2)) (m3 : mg "BadOrder" = some (.ref c3)) (m4 : mg "BadRows" = some (.ref c4)) (m5 : mg "BadDamages" = some (.ref c5)) (m6 : mg "BadHouses" = some (.ref c6)) (m7 : mg "BadWays" = some (.ref c7)) (m8 : mg "BadPlan" = some (.ref c8)) (m9 : mg "NothingToUndo" = some (.ref c9)) (m10 : mg "NoClass" = some (.ref c10)) (m11 : mg "BadClaims" = some (.ref c11)) (m12 : mg "TooMany" = some (.ref c12)) (m13 : mg "BadYears" = some (.ref c13)) (m14 : mg "NoPlace" = some (.ref c14)) (m15 : mg "Billed" = some (.ref c15)) (m16 : mg "NotBilled" = some (.ref c16)) (m17 : mg "BadName" = some (.ref c17)) (m18 : mg "NameTaken" = some (.ref c18)) (m19 : mg "NoPolicy" = some (.ref c19)) :
    FnOk P w K mg base (L2.CX P w) 1 f fd P_l_kinds (spD K none 1 (A_kinds K [c0, c1, c2, c3, c4, c5, c6, c7, c8, c9, c10, c11, c12, c13, c14, c15, c16, c17, c18, c19])) := by
  refine Fun.okD2 (Vn := V_l_kinds) (L := L_l_kinds) (G := G_l_kinds) F sc_l_kinds v_l_kinds l_l_kinds g_l_kinds fun X ds Q dx hl hA => ?_
  obtain ⟨x, C, b, rfl, hx, hk, q⟩ := hA
  refine wss_cons ?_
  repeat decreasing_trivial_pre_omega
  refine ⟨C, _, b 0, hx, .ref _, hk.exc, hk.kit 0 _ rfl, ?_⟩
  repeat decreasing_trivial_pre_omega
  refine ⟨C, _, b 1, hx, .ref _, hk.exc, hk.kit 1 _ rfl, ?_⟩
  repeat decreasing_trivial_pre_omega
  refine ⟨C, _, b 2, hx, .ref _, hk.exc, hk.kit 2 _ rfl, ?_⟩
  repeat decreasing_trivial_pre_omega
  refine wss_cons ?_
  repeat decreasing_trivial_pre_omega
  refine ⟨C, _, b 3, hx, .ref _, hk.exc, hk.kit 3 _ rfl, ?_⟩
  repeat decreasing_trivial_pre_omega
  refine ⟨C, _, b 4, hx, .ref _, hk.exc, hk.kit 4 _ rfl, ?_⟩
  repeat decreasing_trivial_pre_omega
  refine ⟨C, _, b 5, hx, .ref _, hk.exc, hk.kit 5 _ rfl, ?_⟩
  repeat decreasing_trivial_pre_omega
  refine ⟨by simp, ?_⟩
  repeat decreasing_trivial_pre_omega
  refine wss_cons ?_
  repeat decreasing_trivial_pre_omega
  refine ⟨C, _, b 6, hx, .ref _, hk.exc, hk.kit 6 _ rfl, ?_⟩
  repeat decreasing_trivial_pre_omega
  refine ⟨C, _, b 7, hx, .ref _, hk.exc, hk.kit 7 _ rfl, ?_⟩
  repeat decreasing_trivial_pre_omega
  refine ⟨C, _, b 8, hx, .ref _, hk.exc, hk.kit 8 _ rfl, ?_⟩
  repeat decreasing_trivial_pre_omega
  refine ⟨by simp, ?_⟩
  repeat decreasing_trivial_pre_omega
  refine wss_cons ?_
  repeat decreasing_trivial_pre_omega
  refine ⟨C, _, b 9, hx, .ref _, hk.exc, hk.kit 9 _ rfl, ?_⟩
  repeat decreasing_trivial_pre_omega
  refine ⟨C, _, b 10, hx, .ref _, hk.exc, hk.kit 10 _ rfl, ?_⟩
  repeat decreasing_trivial_pre_omega
  refine ⟨C, _, b 11, hx, .ref _, hk.exc, hk.kit 11 _ rfl, ?_⟩
  repeat decreasing_trivial_pre_omega
  refine ⟨by simp, ?_⟩
  repeat decreasing_trivial_pre_omega
  refine wss_cons ?_
  repeat decreasing_trivial_pre_omega
  refine ⟨C, _, b 12, hx, .ref _, hk.exc, hk.kit 12 _ rfl, ?_⟩
  repeat decreasing_trivial_pre_omega
  refine ⟨C, _, b 13, hx, .ref _, hk.exc, hk.kit 13 _ rfl, ?_⟩
  repeat decreasing_trivial_pre_omega
  refine ⟨C, _, b 14, hx, .ref _, hk.exc, hk.kit 14 _ rfl, ?_⟩
  repeat decreasing_trivial_pre_omega
  refine ⟨by simp, ?_⟩
  repeat decreasing_trivial_pre_omega
  refine wss_cons ?_
  repeat decreasing_trivial_pre_omega
  refine ⟨C, _, b 15, hx, .ref _, hk.exc, hk.kit 15 _ rfl, ?_⟩
  repeat decreasing_trivial_pre_omega
  refine ⟨C, _, b 16, hx, .ref _, hk.exc, hk.kit 16 _ rfl, ?_⟩
  repeat decreasing_trivial_pre_omega
  refine ⟨C, _, b 17, hx, .ref _, hk.exc, hk.kit 17 _ rfl, ?_⟩
  repeat decreasing_trivial_pre_omega
  refine ⟨by simp, ?_⟩
  repeat decreasing_trivial_pre_omega
  refine wss_cons ?_
  repeat decreasing_trivial_pre_omega
  refine ⟨C, _, b 18, hx, .ref _, hk.exc, hk.kit 18 _ rfl, ?_⟩
  repeat decreasing_trivial_pre_omega
  refine ⟨C, _, b 19, hx, .ref _, hk.exc, hk.kit 19 _ rfl, ?_⟩
  repeat decreasing_trivial_pre_omega
  refine ⟨by simp, ?_⟩
  repeat decreasing_trivial_pre_omega
  refine wss_cons ?_
  repeat decreasing_trivial_pre_omega
  exact q
end
def errL (c0 c1 c2 c3 c4 c5 c6 c7 c8 c9 c10 c11 c12 c13 c14 c15 c16 c17 c18 c19 : Addr) (p : D) : List D := [.er0 c0, .er0 c1, .er0 c2, .er0 c3, .er0 c4, .er0 c5, .er0 c6, .er0 c7, .er0 c8, .er0 c9, .er1 c10 "at" p, .er1 c11 "claims" p, .er1 c12 "count" p, .er1 c13 "years" p, .er1 c14 "place" p, .er1 c15 "year" p, .er1 c16 "year" p, .er1 c17 "name" p, .er1 c18 "name" p, .er1 c19 "name" p]
section
variable {P : Program} {w : World} {K : PySem.W.Frag} {mg : Str → Option Value} {base : Heap} {f : Addr} {fd : FuncData} {c0 c1 c2 c3 c4 c5 c6 c7 c8 c9 c10 c11 c12 c13 c14 c15 c16 c17 c18 c19 CE : Addr}
def A_errors (c0 c1 c2 c3 c4 c5 c6 c7 c8 c9 c10 c11 c12 c13 c14 c15 c16 c17 c18 c19 : Addr) (ds : List D) (P : D → Prop) : Prop := ∃ p, ds = [p] ∧ P (.lst (errL c0 c1 c2 c3 c4 c5 c6 c7 c8 c9 c10 c11 c12 c13 c14 c15 c16 c17 c18 c19 p))
theorem ok_errors (F : Fun K "_law_errors" "_law_errors" s_l_errors f fd) (bn : NoMg mg BI) (e0 : ErrAt K mg "BadPremiums" c0) (e1 : ErrAt K mg "BadTable" c1) (e2 : ErrAt K mg "BadSteps" c2) (e3 : ErrAt K mg "BadOrder" c3) (e4 : ErrAt K mg "BadRows" c4) (e5 : ErrAt K mg "BadDamages" c5) (e6 : ErrAt K mg "BadHouses" c6) (e7 : ErrAt K mg "BadWays" c7) (e8 : ErrAt K mg "BadPlan" c8) (e9 : ErrAt K mg "NothingToUndo" c9) (e10 : ErrAt1 P w K mg base "NoClass" c10 "at") (e11 : ErrAt1 P w K mg base "BadClaims" c11 "claims") (e12 : ErrAt1 P w K mg base "TooMany" c12 "count") (e13 : ErrAt1 P w K mg base "BadYears" c13 "years") (e14 : ErrAt1 P w K mg base "NoPlace" c14 "place") (e15 : ErrAt1 P w K mg base "Billed" c15 "year") (e16 : ErrAt1 P w K mg base "NotBilled" c16 "year") (e17 : ErrAt1 P w K mg base "BadName" c17 "name") (e18 : ErrAt1 P w K mg base "NameTaken" c18 "name") (e19 : ErrAt1 P w K mg base "NoPolicy" c19 "name") :
    FnOk P w K mg base (L2.CX P w) 3 f fd P_l_errors (spD K none 1 (A_errors c0 c1 c2 c3 c4 c5 c6 c7 c8 c9 c10 c11 c12 c13 c14 c15 c16 c17 c18 c19)) := by
  refine Fun.okD2 (Vn := V_l_errors) (L := L_l_errors) (G := G_l_errors) F sc_l_errors v_l_errors l_l_errors g_l_errors fun X ds Q dx hl hA => ?_
  obtain ⟨p, rfl, q⟩ := hA
  refine wss_cons ?_
  repeat decreasing_trivial_pre_omega
  refine wss_cons ?_
  repeat decreasing_trivial_pre_omega
  refine ⟨by simp, ?_⟩
  repeat decreasing_trivial_pre_omega
  refine wss_cons ?_
  repeat decreasing_trivial_pre_omega
  refine ⟨by simp, ?_⟩
  repeat decreasing_trivial_pre_omega
  refine wss_cons ?_
  repeat decreasing_trivial_pre_omega
  exact q
def A_parts (c0 c1 c2 c3 c4 c5 c6 c7 c8 c9 c10 c11 c12 c13 c14 c15 c16 c17 c18 c19 : Addr) (ds : List D) (P : D → Prop) : Prop := ∃ p, ds = [.lst (errL c0 c1 c2 c3 c4 c5 c6 c7 c8 c9 c10 c11 c12 c13 c14 c15 c16 c17 c18 c19 p)] ∧ P (.lst [p, p, p, p, p, p, p, p, p, p])
theorem ok_parts (F : Fun K "_law_parts" "_law_parts" s_l_parts f fd) (bn : NoMg mg BI) (x10 : XfC K c10) (n10 : PySem.W.findIn K (.ref c10) "at" = some none) (x11 : XfC K c11) (n11 : PySem.W.findIn K (.ref c11) "claims" = some none) (x12 : XfC K c12) (n12 : PySem.W.findIn K (.ref c12) "count" = some none) (x13 : XfC K c13) (n13 : PySem.W.findIn K (.ref c13) "years" = some none) (x14 : XfC K c14) (n14 : PySem.W.findIn K (.ref c14) "place" = some none) (x15 : XfC K c15) (n15 : PySem.W.findIn K (.ref c15) "year" = some none) (x16 : XfC K c16) (n16 : PySem.W.findIn K (.ref c16) "year" = some none) (x17 : XfC K c17) (n17 : PySem.W.findIn K (.ref c17) "name" = some none) (x18 : XfC K c18) (n18 : PySem.W.findIn K (.ref c18) "name" = some none) (x19 : XfC K c19) (n19 : PySem.W.findIn K (.ref c19) "name" = some none) :
    FnOk P w K mg base (L2.CX P w) 1 f fd P_l_parts (spD K none 1 (A_parts c0 c1 c2 c3 c4 c5 c6 c7 c8 c9 c10 c11 c12 c13 c14 c15 c16 c17 c18 c19)) := by
  refine Fun.okD2 (Vn := V_l_parts) (L := L_l_parts) (G := G_l_parts) F sc_l_parts v_l_parts l_l_parts g_l_parts fun X ds Q dx hl hA => ?_
  obtain ⟨p, rfl, q⟩ := hA
  refine wss_cons ?_
  repeat decreasing_trivial_pre_omega
  refine dl_partV (by assumption) (by with_unfolding_all rfl) ?_
  repeat decreasing_trivial_pre_omega
  refine ⟨_, _, rfl, x10, n10, ?_⟩
  repeat decreasing_trivial_pre_omega
  refine dl_partV (by assumption) (by with_unfolding_all rfl) ?_
  repeat decreasing_trivial_pre_omega
  refine ⟨_, _, rfl, x11, n11, ?_⟩
  repeat decreasing_trivial_pre_omega
  refine dl_partV (by assumption) (by with_unfolding_all rfl) ?_
  repeat decreasing_trivial_pre_omega
  refine ⟨_, _, rfl, x12, n12, ?_⟩
  repeat decreasing_trivial_pre_omega
  refine dl_partV (by assumption) (by with_unfolding_all rfl) ?_
  repeat decreasing_trivial_pre_omega
  refine ⟨_, _, rfl, x13, n13, ?_⟩
  repeat decreasing_trivial_pre_omega
  refine dl_partV (by assumption) (by with_unfolding_all rfl) ?_
  repeat decreasing_trivial_pre_omega
  refine ⟨_, _, rfl, x14, n14, ?_⟩
  repeat decreasing_trivial_pre_omega
  refine wss_cons ?_
  repeat decreasing_trivial_pre_omega
  refine dl_partV (by assumption) (by with_unfolding_all rfl) ?_
  repeat decreasing_trivial_pre_omega
  refine ⟨_, _, rfl, x15, n15, ?_⟩
  repeat decreasing_trivial_pre_omega
  refine dl_partV (by assumption) (by with_unfolding_all rfl) ?_
  repeat decreasing_trivial_pre_omega
  refine ⟨_, _, rfl, x16, n16, ?_⟩
  repeat decreasing_trivial_pre_omega
  refine dl_partV (by assumption) (by with_unfolding_all rfl) ?_
  repeat decreasing_trivial_pre_omega
  refine ⟨_, _, rfl, x17, n17, ?_⟩
  repeat decreasing_trivial_pre_omega
  refine dl_partV (by assumption) (by with_unfolding_all rfl) ?_
  repeat decreasing_trivial_pre_omega
  refine ⟨_, _, rfl, x18, n18, ?_⟩
  repeat decreasing_trivial_pre_omega
  refine dl_partV (by assumption) (by with_unfolding_all rfl) ?_
  repeat decreasing_trivial_pre_omega
  refine ⟨_, _, rfl, x19, n19, ?_⟩
  repeat decreasing_trivial_pre_omega
  refine ⟨by simp, ?_⟩
  repeat decreasing_trivial_pre_omega
  exact q
end
end My
set_option Elab.async false
set_option linter.all false
set_option maxRecDepth 100000
set_option autoImplicit false
set_option pp.deepTerms false
set_option pp.deepTerms.threshold 7
set_option pp.maxSteps 1500
set_option maxHeartbeats 1600000
namespace My
open PySem L2 DL
/-- a place in a list of names -/
local macro_rules | `(tactic| array_get_dec) => `(tactic| repeat (first | exact At.z | apply At.s))
/-- one step -/
local macro_rules | `(tactic| decreasing_trivial_pre_omega) => `(tactic| with_reducible first
  | (refine we_int ?_)
  | (refine we_bl ?_)
  | (refine we_non ?_)
  | (refine we_str ?_)
  | (refine dl_name (by assumption) (by array_get_dec) (by array_get_dec) (by with_unfolding_all rfl) ?_)
  | (refine dl_ixOwn (by assumption) (by array_get_dec) (by array_get_dec) (by with_unfolding_all rfl) (by with_unfolding_all exact fun _ _ => rfl) ?_)
  | (refine we_ix (by with_unfolding_all exact fun _ _ => rfl) ?_)
  | (refine WL.we (wl_cat (b := .List _ _) ?_))
  | (refine we_add ?_)
  | (refine we_sub ?_)
  | (refine WL.we (wl_rep (a := .List _ _) ?_)) | (refine wl_rep (a := .List _ _) ?_)
  | (refine we_muls ?_)
  | (refine we_neg ?_)
  | (refine we_mod ?_)
  | (refine we_fdiv ?_)
  | (refine we_pow ?_)
  | (refine we_lt ?_) | (refine we_le ?_) | (refine we_gt ?_) | (refine we_ge ?_)
  | (refine we_lele (by with_unfolding_all rfl) ?_) | (refine wt_lele (by with_unfolding_all rfl) ?_)
  | (refine wt_lt ?_) | (refine wt_le ?_) | (refine wt_gt ?_) | (refine wt_ge ?_) | (refine wt_eqI ?_)
  | (refine wt_neI ?_) | (refine wt_isN ?_) | (refine wt_notN ?_) | (refine we_isN ?_) | (refine we_notN ?_)
  | (refine wa_nil ?_)
  | (refine wa_cons ?_ (by with_unfolding_all rfl))
  | (refine dl_len (by assumption) (by assumption) (by array_get_dec) (by array_get_dec) (by with_unfolding_all rfl) ?_)
  | (refine dl_abs (by assumption) (by assumption) (by array_get_dec) (by array_get_dec) (by with_unfolding_all rfl) ?_)
  | (refine dl_int (by assumption) (by assumption) (by array_get_dec) (by array_get_dec) (by with_unfolding_all rfl) ?_)
  | (refine dl_min (by assumption) (by assumption) (by array_get_dec) (by array_get_dec) (by with_unfolding_all rfl) (by with_unfolding_all rfl) ?_)
  | (refine dl_max (by assumption) (by assumption) (by array_get_dec) (by array_get_dec) (by with_unfolding_all rfl) (by with_unfolding_all rfl) ?_)
  | (refine dl_isV (by assumption) (by assumption) (by array_get_dec) (by array_get_dec) (by with_unfolding_all rfl) (by with_unfolding_all rfl) ?_)
  | (refine dl_any (by assumption) (by assumption) (by array_get_dec) (by array_get_dec) (by with_unfolding_all rfl) ?_)
  | (refine dl_all (by assumption) (by assumption) (by array_get_dec) (by array_get_dec) (by with_unfolding_all rfl) ?_)
  | (refine dl_list (by assumption) (by assumption) (by array_get_dec) (by array_get_dec) (by with_unfolding_all rfl) ?_)
  | (refine dl_tuple (by assumption) (by assumption) (by array_get_dec) (by array_get_dec) (by with_unfolding_all rfl) ?_)
  | (refine dl_ty (by assumption) (by assumption) PyProof.Rows.Boot.«ValueError» (by array_get_dec) (by array_get_dec) ?_)
  | (refine dl_ty (by assumption) (by assumption) boot_int (by array_get_dec) (by array_get_dec) ?_)
  | (refine dl_ty (by assumption) (by assumption) boot_bool (by array_get_dec) (by array_get_dec) ?_)
  | (refine dl_ty (by assumption) (by assumption) boot_list (by array_get_dec) (by array_get_dec) ?_)
  | (refine dl_er0 (by assumption) (by assumption) (by array_get_dec) ?_)
  | (refine dl_er1 (by assumption) (by assumption) (by array_get_dec) (by decide) (by with_unfolding_all rfl) (by with_unfolding_all rfl) ?_)
  | (refine dl_pure (by assumption) (by assumption) (by array_get_dec) (by decide) (by with_unfolding_all rfl) (by with_unfolding_all rfl) ?_)
  | (refine dl_bag (by assumption) (by assumption) (by array_get_dec) (by decide) (by with_unfolding_all rfl) (by with_unfolding_all rfl) ?_)
  | (refine dl_glob (d := .ref _) (v := .ref _) (u := .ref _) (by assumption) (by array_get_dec) (by assumption) (by with_unfolding_all rfl) (by with_unfolding_all rfl) ?_)
  | (refine dl_glob (d := .int _) (v := .int _) (u := .int _ _) (by assumption) (by array_get_dec) (by assumption) (by with_unfolding_all exact ⟨_, rfl⟩) (by with_unfolding_all rfl) ?_)
  | (refine we_one ?_) | (refine we_eqI ?_) | (refine we_not ?_) | (refine we_and ?_) | (refine we_or ?_)
  | (refine wt_val ?_ (by with_unfolding_all exact fun _ => rfl))
  | (refine WL.we (wl_lst ?_)) | (refine WL.we (wl_slice ?_)) | (refine wl_lst ?_) | (refine wl_slice ?_) | (refine wl_cat ?_)
  | (refine wo_none ?_) | (refine wo_some ?_) | (refine we_tup ?_)
  | (refine wss_nil ?_)
  | (refine ws_ret ?_)
  | (refine ws_if ?_)
  | (refine WW.wt (ww_and ?_)) | (refine WW.wt (ww_or ?_))
  | (refine wt_not ?_)
  | (refine ww_and ?_) | (refine ww_or ?_) | (refine ww_and1 ?_) | (refine ww_or1 ?_)
  | (refine dl_set (by assumption) (by array_get_dec) (by array_get_dec) (by with_unfolding_all rfl) ?_)
  | (refine dl_setIx (by assumption) (by array_get_dec) (by array_get_dec) (by with_unfolding_all rfl) (by with_unfolding_all exact fun _ => rfl) (by with_unfolding_all rfl) (by with_unfolding_all rfl) (by with_unfolding_all rfl) ?_)
  | (refine ite_t ?_) | (refine ite_f ?_)
  | (refine ⟨(by simp : List.length _ ≤ 1000000), ?_⟩)
  | (with_unfolding_all refine ⟨_, rfl, ?_⟩))

/-! ### the law -/
def spBg (K : PySem.W.Frag) : Sp := fun vs H Q _ => ∃ (a : Addr) (ns : List Int), vs = [.ref a] ∧ SqL K H a (ns.map V.int) ∧
  ∀ b l H', H l = none → upd H l (.lst (ns.map V.int)) b = none → H' = upd (upd H l (.lst (ns.map V.int))) b (.lst [.ref l, .int 0, .int 0, .int 17, .int 0]) → Q (.ref b) H'
def spLaw (K : PySem.W.Frag) : Sp := fun vs H Q _ => ∃ (a : Addr) (ns : List Int), vs = [.ref a] ∧ SqL K H a (ns.map V.int) ∧ (∀ z ∈ ns, z.natAbs < 2 ^ 1090000) ∧ ∀ H', Q (.bl true) H'

theorem D.eq_self {d : D} (h : d.ok 64 = true) : d.eq d = true := PySem.SeqAt.eqv_refl _ (D.ok_lay 64 d h).1
theorem klist_of {es : List D} {b : Nat → Bool} (h : es.length = 20) (hE : ∀ (i : Nat) (e : D), es[i]? = some e → e = .bl (b i)) : es = klist b := by
  have e1 : klist b = (List.range 20).map fun i => D.bl (b i) := rfl
  rw [e1]
  refine List.ext_getElem? fun i => ?_
  by_cases hi : i < 20
  · rw [List.getElem?_map, List.getElem?_range hi, List.getElem?_eq_getElem (by omega)]
    exact congrArg some (hE i _ (List.getElem?_eq_getElem (by omega)))
  · rw [List.getElem?_eq_none (by omega), List.getElem?_eq_none (by rw [List.length_map, List.length_range]; omega)]
theorem klist_ok {b : Nat → Bool} : (D.lst (klist b)).ok 64 = true := by
  rw [show (64 : Nat) = 63 + 1 from rfl, D.ok]; rfl
theorem klist_cong {b b' : Nat → Bool} (h : ∀ j, j < 20 → b j = b' j) : klist b = klist b' := by
  have e1 : ∀ b, klist b = (List.range 20).map fun i => D.bl (b i) := fun _ => rfl
  rw [e1, e1]
  exact List.map_congr_left fun a ha => by rw [h a (List.mem_range.mp ha)]
structure Cls20 (K : PySem.W.Frag) (Cs : List Addr) (CE : Addr) : Prop where
  kinds : ∀ (i : Nat) (C : Addr), Cs[i]? = some C → Kinds K Cs C (fun j => decide (j = i))
  up : ∀ C ∈ Cs, PySem.W.kitOne K (.ref C) (.ref CE) = some true
  ve : ∀ C ∈ Cs, PySem.W.kitOne K (.ref C) (.type "ValueError") = some true
  ce : Kinds K Cs CE (fun _ => false)
section
variable {P : Program} {w : World} {K : PySem.W.Frag} {mg : Str → Option Value} {base : Heap} {f : Addr} {fd : FuncData} {c0 c1 c2 c3 c4 c5 c6 c7 c8 c9 c10 c11 c12 c13 c14 c15 c16 c17 c18 c19 CE : Addr}
theorem errL_at (p : D) (i : Nat) (hi : i < 20) : ∃ d C, (errL c0 c1 c2 c3 c4 c5 c6 c7 c8 c9 c10 c11 c12 c13 c14 c15 c16 c17 c18 c19 p)[i]? = some d ∧ d.errOf = some C ∧ [c0, c1, c2, c3, c4, c5, c6, c7, c8, c9, c10, c11, c12, c13, c14, c15, c16, c17, c18, c19][i]? = some C := by
  have h : i = 0 ∨ i = 1 ∨ i = 2 ∨ i = 3 ∨ i = 4 ∨ i = 5 ∨ i = 6 ∨ i = 7 ∨ i = 8 ∨ i = 9 ∨ i = 10 ∨ i = 11 ∨ i = 12 ∨ i = 13 ∨ i = 14 ∨ i = 15 ∨ i = 16 ∨ i = 17 ∨ i = 18 ∨ i = 19 := by omega
  rcases h with rfl | rfl | rfl | rfl | rfl | rfl | rfl | rfl | rfl | rfl | rfl | rfl | rfl | rfl | rfl | rfl | rfl | rfl | rfl | rfl <;> exact ⟨_, _, rfl, rfl, rfl⟩
theorem ok_bag0 (F : Fun K "_law_bag" "_law_bag" s_l_bag f fd) (bn : NoMg mg BI) : FnOk P w K mg base (L2.CX P w) 1 f fd P_l_bag (spBg K) := by
  refine F.okX sc_l_bag (fun vs H Q E h => ?_) fun cdv Ar outer s H vs Q E hr h => ⟨_, pss_one (ps_ret (pe_lst (pa_cons (pe_callTy call_list_of rfl (bn "list" (by decide)) boot_list (pa_cons (pe_var (i := 0) rfl (Or.inl rfl)) pa_nil)) (pa_cons pe_int (pa_cons pe_int (pa_cons pe_int (pa_cons pe_int pa_nil))))))), ?_⟩
  · obtain ⟨a, ns, rfl, _⟩ := h
    rfl
  · obtain ⟨a, ns, rfl, hs, q⟩ := h
    refine ⟨.ref a, rfl, a, ns.map V.int, rfl, .inl hs, fun l hl => ?_⟩
    refine ⟨(by show 5 ≤ sizeLine; decide), fun b hb => q b l _ hl hb rfl⟩
theorem rest_law {X : Cx} {a : Addr} {b : Mem} {Q : D → Prop} (bn : NoMg mg BI) (f1 : FnAt P w K mg base "_law_draw" 1 P_l_draw (spB K 2 A_draw)) (f2 : FnAt P w K mg base "_law_mixed" 2 P_l_mixed (spB K 2 A_mixed)) (f3 : FnAt P w K mg base "_law_kinds" 1 P_l_kinds (spD K none 1 (A_kinds K [c0, c1, c2, c3, c4, c5, c6, c7, c8, c9, c10, c11, c12, c13, c14, c15, c16, c17, c18, c19]))) (f4 : FnAt P w K mg base "_law_errors" 3 P_l_errors (spD K none 1 (A_errors c0 c1 c2 c3 c4 c5 c6 c7 c8 c9 c10 c11 c12 c13 c14 c15 c16 c17 c18 c19))) (f5 : FnAt P w K mg base "_law_parts" 1 P_l_parts (spD K none 1 (A_parts c0 c1 c2 c3 c4 c5 c6 c7 c8 c9 c10 c11 c12 c13 c14 c15 c16 c17 c18 c19)))
    (eE : ErrAt K mg "ClaimError" CE) (hC : Cls20 K [c0, c1, c2, c3, c4, c5, c6, c7, c8, c9, c10, c11, c12, c13, c14, c15, c16, c17, c18, c19] CE)
    (dx : DX X P w K mg base N_law V_law L_law G_law (defScope s_law) 4) (q : Q (.bl true)) :
    WSs X (some b) ((envOf N_law [.ref a]).set 1 (some (.frz (.ref b)))) (defBody s_law).tail { nx := fun _ => False, rt := fun d _ => Q d } := by
  have hun := dx.room.un
  have mE := eE.at_
  let E (o2 o3 o4 o5 : Option Slot) : Ev := [some (.frz (.ref a)), some (.frz (.ref b)), o2, o3, o4, o5, none]
  refine wss_cut (fun ev => ∃ o2 o3 o4 o5, ev = E o2 o3 o4 o5) ?_ ?_
  · refine dl_forR 2 (by assumption) (by assumption) (by array_get_dec) (by array_get_dec) (by array_get_dec) (by array_get_dec) (by with_unfolding_all rfl) (by with_unfolding_all exact fun _ => rfl) ?_
    repeat decreasing_trivial_pre_omega
    refine ⟨⟨by decide, by decide⟩, fun i ev => ∃ o2 o3 o4 o5, ev = E o2 o3 o4 o5, ⟨none, none, none, none, by with_unfolding_all rfl⟩, ?_, fun ev h => h⟩
    rintro i ev hi ⟨o2, o3, o4, o5, rfl⟩
    refine wss_cons ?_
    repeat decreasing_trivial_pre_omega
    refine ⟨⟨by decide, by decide, by decide⟩, ?_⟩
    repeat decreasing_trivial_pre_omega
    refine ⟨rfl, _, rfl, 1000, rfl, by decide, draw_le (by decide), fun r hr0 hr1 => ?_⟩
    repeat decreasing_trivial_pre_omega
    refine ⟨rfl, _, rfl, 8, rfl, by decide, draw_le (by decide), fun s hs0 hs1 => ?_⟩
    repeat decreasing_trivial_pre_omega
    refine at_all hs0 hs1 fun p hp => ?_
    have hpo : p.ok 63 = true := by
      simp only [List.mem_cons, List.not_mem_nil, or_false] at hp
      rcases hp with rfl | rfl | rfl | rfl | rfl | rfl | rfl | rfl <;> first | rfl | decide +kernel
    clear hp
    refine wss_cons ?_
    repeat decreasing_trivial_pre_omega
    refine ⟨rfl, p, rfl, ?_⟩
    refine wss_cut (fun ev => ∃ o5, ev = E (some (.frz (.int i))) (some (.frz p)) (some (.frz (.lst (errL c0 c1 c2 c3 c4 c5 c6 c7 c8 c9 c10 c11 c12 c13 c14 c15 c16 c17 c18 c19 p)))) o5) ?_ ?_
    · refine dl_forL 5 (by assumption) (by array_get_dec) (by array_get_dec) (by with_unfolding_all exact fun _ => rfl) ?_
      refine dl_bag (by assumption) (by assumption) (by array_get_dec) (by decide) (by with_unfolding_all rfl) (by with_unfolding_all rfl) ?_
      refine wa_cons (dl_name (by assumption) (by array_get_dec) (by array_get_dec) (by with_unfolding_all rfl) ?_) (by with_unfolding_all rfl)
      refine wa_cons (WL.we (dl_listRg (by assumption) (by assumption) (by array_get_dec) (by array_get_dec) (by array_get_dec) (by array_get_dec) (by with_unfolding_all rfl) (by with_unfolding_all rfl) ?_)) (by with_unfolding_all rfl)
      repeat decreasing_trivial_pre_omega
      refine ⟨⟨by simp [errL], by simp [errL]⟩, ?_⟩
      repeat decreasing_trivial_pre_omega
      refine ⟨rfl, _, rfl, _, rfl, by simp [errL], fun ys hys => ?_⟩
      have hm : ∀ d ∈ ys, ∃ k : Nat, d = .int k ∧ k < 20 := fun d hd => by
        have := hys.mem_iff.mp hd
        obtain ⟨k, hk, rfl⟩ := List.mem_map.mp this
        exact ⟨k, rfl, List.mem_range.mp hk⟩
      refine ⟨fun i' ev => ∃ o5, ev = E (some (.frz (.int i))) (some (.frz p)) (some (.frz (.lst (errL c0 c1 c2 c3 c4 c5 c6 c7 c8 c9 c10 c11 c12 c13 c14 c15 c16 c17 c18 c19 p)))) o5, ⟨_, by with_unfolding_all rfl⟩, ?_, fun ev h => h⟩
      rintro i' d ev hi' ⟨o5, rfl⟩
      obtain ⟨k, rfl, hk⟩ := hm d (List.mem_of_getElem? hi')
      obtain ⟨d, C, hd, hdC, hCk⟩ := errL_at (c0 := c0) (c1 := c1) (c2 := c2) (c3 := c3) (c4 := c4) (c5 := c5) (c6 := c6) (c7 := c7) (c8 := c8) (c9 := c9) (c10 := c10) (c11 := c11) (c12 := c12) (c13 := c13) (c14 := c14) (c15 := c15) (c16 := c16) (c17 := c17) (c18 := c18) (c19 := c19) p k hk
      have hKi := hC.kinds k C hCk
      have hup := hC.up C (List.mem_of_getElem? hCk)
      have hve := hC.ve C (List.mem_of_getElem? hCk)
      refine wss_cons ?_
      refine ws_if (wt_ne (by omega) ?_)
      repeat decreasing_trivial_pre_omega
      refine ⟨d, atI_nat hd, ?_⟩
      repeat decreasing_trivial_pre_omega
      refine ⟨rfl, d, C, _, rfl, hdC, hKi, ?_⟩
      refine WL.we (dl_compR 6 own_law_0 Vc_law_0 Gc_law_0 (by assumption) (by assumption) (by decide +kernel) rfl (by array_get_dec) (by decide +kernel) (by decide +kernel) (by decide +kernel) (by array_get_dec) (by array_get_dec) (by with_unfolding_all rfl) (by with_unfolding_all exact fun _ => rfl) ?_)
      refine we_int ?_
      refine ⟨⟨by decide, by decide⟩, fun j e => e = .bl (decide (j = k)), fun j hj X' dx' hK => ?_, fun es hes hE => ?_⟩
      · repeat decreasing_trivial_pre_omega
        show D.bl _ = D.bl _
        congr 1
        simp only [decide_eq_decide]
        omega
      rw [klist_of (b := fun j => decide (j = k)) hes hE]
      refine ⟨klist_ok, klist_ok, ?_⟩
      rw [D.eq_self klist_ok]
      refine ite_f (wss_nil ?_)
      refine wss_cons ?_
      repeat decreasing_trivial_pre_omega
      refine ⟨d, atI_nat hd, ?_⟩
      repeat decreasing_trivial_pre_omega
      refine ⟨C, _, true, hdC, .ref _, hKi.exc, hup, ?_⟩
      refine ite_f ?_
      repeat decreasing_trivial_pre_omega
      refine ⟨d, atI_nat hd, ?_⟩
      repeat decreasing_trivial_pre_omega
      refine ⟨C, _, true, hdC, .ty _, hKi.exc, hve, ?_⟩
      refine ite_f (wss_nil (wss_nil ?_))
      exact ⟨_, rfl⟩
    · rintro ev ⟨o5, rfl⟩
      refine wss_cons ?_
      refine ws_if (wt_ne (by omega) ?_)
      repeat decreasing_trivial_pre_omega
      refine ⟨rfl, p, rfl, ?_⟩
      repeat decreasing_trivial_pre_omega
      refine ⟨by decide, by decide, by simp, ?_⟩
      have ho : (D.lst [p, p, p, p, p, p, p, p, p, p]).ok 64 = true := by
        rw [show (64 : Nat) = 63 + 1 from rfl, D.ok]
        simp only [D.okAll, hpo, Bool.and_true, Bool.and_self]
      refine ⟨ho, ho, ?_⟩
      show if (!(D.lst [p, p, p, p, p, p, p, p, p, p]).eq (D.lst [p, p, p, p, p, p, p, p, p, p])) = true then _ else _
      rw [D.eq_self ho]
      refine ite_f (wss_nil (wss_nil ?_))
      exact ⟨_, _, _, _, rfl⟩
  rintro ev ⟨o2, o3, o4, o5, rfl⟩
  refine wss_cons ?_
  repeat decreasing_trivial_pre_omega
  refine ⟨rfl, _, CE, fun _ => false, rfl, rfl, hC.ce, ?_⟩
  refine ⟨List.replicate 20 false, rfl, ?_⟩
  exact q
theorem ok_law0 (F : Fun K "law" "law" s_law f fd) (bn : NoMg mg BI) (f0 : FnAt P w K mg base "_law_bag" 1 P_l_bag (spBg K)) (f1 : FnAt P w K mg base "_law_draw" 1 P_l_draw (spB K 2 A_draw)) (f2 : FnAt P w K mg base "_law_mixed" 2 P_l_mixed (spB K 2 A_mixed)) (f3 : FnAt P w K mg base "_law_kinds" 1 P_l_kinds (spD K none 1 (A_kinds K [c0, c1, c2, c3, c4, c5, c6, c7, c8, c9, c10, c11, c12, c13, c14, c15, c16, c17, c18, c19]))) (f4 : FnAt P w K mg base "_law_errors" 3 P_l_errors (spD K none 1 (A_errors c0 c1 c2 c3 c4 c5 c6 c7 c8 c9 c10 c11 c12 c13 c14 c15 c16 c17 c18 c19))) (f5 : FnAt P w K mg base "_law_parts" 1 P_l_parts (spD K none 1 (A_parts c0 c1 c2 c3 c4 c5 c6 c7 c8 c9 c10 c11 c12 c13 c14 c15 c16 c17 c18 c19)))
    (eE : ErrAt K mg "ClaimError" CE) (hC : Cls20 K [c0, c1, c2, c3, c4, c5, c6, c7, c8, c9, c10, c11, c12, c13, c14, c15, c16, c17, c18, c19] CE) : FnOk P w K mg base (L2.CX P w) 5 f fd P_law (spLaw K) := by
  obtain ⟨fB, fdB, FB, hmB, hkB, hbB⟩ := f0.ex
  refine F.okX sc_law (fun vs H Q E h => ?_) fun cdv Ar outer s H vs Q E hr h => ⟨_, pss_cons (ps_set (i := 1) sc_law.nd rfl (Or.inl rfl) (pe_call FB (hr.mono (by decide)) rfl hmB hkB hbB .nil passL (pa_cons (pe_var (i := 0) rfl (Or.inl rfl)) pa_nil))) (pss_can (st := (defBody s_law).tail)), ?_⟩
  · obtain ⟨a, ns, rfl, _⟩ := h
    rfl
  · obtain ⟨a, ns, rfl, hs, hns, q⟩ := h
    refine ⟨.ref a, rfl, a, ns, rfl, hs, fun b l H' hl hb e => ?_⟩
    subst e
    have hbl : b ≠ l := fun z => by subst z; rw [upd_same] at hb; cases hb
    let M : Mem := ⟨b, l, ns⟩
    have gd : Good K (some M) (fun _ => none) (upd (upd H l (.lst (ns.map V.int))) b (.lst [.ref l, .int 0, .int 0, .int 17, .int 0])) := ⟨(fun _ _ z => nomatch z), fun c hc => by
      cases hc
      exact ⟨⟨rfl, rfl⟩, 0, 0, 17, 0, hbl, upd_same, by rw [show M.l = l from rfl, upd_ne (Ne.symm hbl), upd_same], Int.le_refl 0, Nat.pow_pos (by decide), hns⟩⟩
    refine (rest_law (b := M) (Q := fun d => d = .bl true) bn f1 f2 f3 f4 f5 eE hC (dx_of (x := "law") sc_law v_law l_law g_law hr) rfl).run _ (fun _ => none) _ (fun _ => none) (fun _ => none) _ _ (fun _ _ _ _ => False) ⟨.refl gd, Envs.frz (envs_start (.cons (.ref a) .nil)) (.ref b), Same.refl _⟩ ?_
    exact ⟨fun _ _ _ _ _ z => z.elim, fun v d σ env F' H' s' hv e => by subst e; cases hv; exact q H', fun _ _ _ _ _ z => z.elim, fun _ _ _ _ _ z => z.elim, takes0, fun _ _ _ _ _ _ _ _ _ z => z.elim⟩
end
end My
set_option Elab.async false
set_option linter.all false
set_option maxRecDepth 100000
set_option autoImplicit false
set_option pp.deepTerms false
set_option pp.deepTerms.threshold 7
set_option pp.maxSteps 3000
set_option maxHeartbeats 8000000
namespace My
open PySem L2 DL PyProof.Rows
/-! ### the classes of errors -/
def MroOk (K : PySem.W.Frag) (C : Addr) (l : List Value) : Prop := ∀ T, PySem.W.subIn K (.ref C) T = some (l.contains T)
theorem mro_ok {K : PySem.W.Frag} {C : Addr} {cd : PySem.ClassData} {l : List Value} (h : PySem.W.clsIn K C = some cd) (hm : cd.mro = l) (he : l.isEmpty = false) : MroOk K C l := fun T => by
  show PySem.W.mroIn K C T = _
  unfold PySem.W.mroIn
  rw [h, Option.bind_some, hm, he]
  rfl
theorem kit_cls2 {K : PySem.W.Frag} {C T : Addr} {l : List Value} (h : MroOk K C l) (h2 : PySem.W.isClsIn K T = true) (h3 : PySem.W.typeIn K (.ref T) = some (.type "type")) {b : Bool} (hb : (C = T → b = true)) (hc : C ≠ T → l.contains (.ref T) = b) : PySem.W.kitOne K (.ref C) (.ref T) = some b := by
  have e2 : ((PySem.W.clsIn K T).isSome && PySem.W.typeIn K (.ref T) == some (.type "type")) = true := by
    have h2' : (PySem.W.clsIn K T).isSome = true := h2
    rw [h2', h3]; rfl
  unfold PySem.W.kitOne
  by_cases e : C = T
  · subst e
    rw [if_pos (by simp), hb rfl]
  · rw [if_neg (by simpa using e)]
    unfold PySem.W.kitCls
    rw [← hc e, ← h (.ref T)]
    exact if_pos e2
theorem kit_ve {K : PySem.W.Frag} {C : Addr} {l : List Value} (h : MroOk K C l) (hl : l.contains (.type "ValueError") = true) : PySem.W.kitOne K (.ref C) (.type "ValueError") = some true := by
  unfold PySem.W.kitOne
  rw [if_neg (by simp)]
  unfold PySem.W.kitCls
  have e : PySem.W.kitMeta "ValueError" = true := by decide +kernel
  show (if PySem.W.kitMeta "ValueError" = true then _ else _) = _
  rw [if_pos e, h, hl]
def tyL : List Value := [.type "ValueError", .type "Exception", .type "BaseException", .type "object"]
theorem ty_no {T : Addr} {x : Value} (h : x ∈ tyL) : (Value.ref T == x) = false := by
  simp only [tyL, List.mem_cons, List.not_mem_nil, or_false] at h
  rcases h with rfl | rfl | rfl | rfl <;> rfl
theorem has_ref {T : Addr} {l : List Addr} : (l.map Value.ref ++ tyL).contains (.ref T) = decide (T ∈ l) := by
  have e : tyL.contains (.ref T) = false := rfl
  rw [List.contains_eq_any_beq, List.any_append]
  have e2 : (tyL.any fun x => Value.ref T == x) = false := rfl
  rw [e2, Bool.or_false, List.any_map]
  rw [Bool.eq_iff_iff, List.any_eq_true, decide_eq_true_iff]
  constructor
  · rintro ⟨x, hx, h⟩
    have : T = x := by simpa using h
    exact this ▸ hx
  · intro h
    exact ⟨T, h, by simp⟩
theorem cls20_of {K : PySem.W.Frag} {Cs : List Addr} {CE : Addr} (nd : (Cs ++ [CE]).Nodup) (h : ∀ C ∈ Cs, ExcC K C ∧ MroOk K C [.ref C, .ref CE, .type "ValueError", .type "Exception", .type "BaseException", .type "object"] ∧ PySem.W.isClsIn K C = true ∧ PySem.W.typeIn K (.ref C) = some (.type "type"))
    (hE : ExcC K CE) (mE : MroOk K CE [.ref CE, .type "ValueError", .type "Exception", .type "BaseException", .type "object"]) (iE : PySem.W.isClsIn K CE = true) (tE : PySem.W.typeIn K (.ref CE) = some (.type "type")) : Cls20 K Cs CE := by
  rw [List.nodup_append] at nd
  obtain ⟨n1, _, n3⟩ := nd
  have ne : ∀ C ∈ Cs, C ≠ CE := fun C hC => n3 C hC CE (List.mem_singleton.mpr rfl)
  refine ⟨fun i C hi => ?_, fun C hC => ?_, fun C hC => ?_, ⟨hE, fun j D hj => ?_⟩⟩
  · have hC := List.mem_of_getElem? hi
    obtain ⟨h1, h2, h3, h4⟩ := h C hC
    refine ⟨h1, fun j D hj => ?_⟩
    have hD := List.mem_of_getElem? hj
    obtain ⟨_, _, d3, d4⟩ := h D hD
    obtain ⟨li, rfl⟩ := List.getElem?_eq_some_iff.mp hi
    obtain ⟨lj, rfl⟩ := List.getElem?_eq_some_iff.mp hj
    refine kit_cls2 h2 d3 d4 (fun e => ?_) (fun e => ?_)
    · have hp := List.pairwise_iff_getElem.mp n1
      refine decide_eq_true ?_
      rcases Nat.lt_trichotomy j i with q | q | q
      · exact absurd e.symm (hp j i lj li q)
      · exact q
      · exact absurd e (hp i j li lj q)
    · have e1 : ([Value.ref Cs[i], .ref CE, .type "ValueError", .type "Exception", .type "BaseException", .type "object"] : List Value) = [Cs[i], CE].map Value.ref ++ tyL := rfl
      rw [e1, has_ref, decide_eq_false, decide_eq_false]
      · rintro rfl; exact e rfl
      · intro hm
        simp only [List.mem_cons, List.not_mem_nil, or_false] at hm
        rcases hm with hm | hm
        · exact e hm.symm
        · exact ne _ hD hm
  · obtain ⟨h1, h2, h3, h4⟩ := h C hC
    refine kit_cls2 h2 iE tE (fun _ => rfl) fun _ => ?_
    have e1 : ([Value.ref C, .ref CE, .type "ValueError", .type "Exception", .type "BaseException", .type "object"] : List Value) = [C, CE].map Value.ref ++ tyL := rfl
    rw [e1, has_ref, decide_eq_true]
    simp
  · obtain ⟨h1, h2, h3, h4⟩ := h C hC
    exact kit_ve h2 rfl
  · have hD := List.mem_of_getElem? hj
    obtain ⟨_, _, d3, d4⟩ := h D hD
    refine kit_cls2 mE d3 d4 (fun e => absurd e.symm (ne D hD)) fun _ => ?_
    have e1 : ([Value.ref CE, .type "ValueError", .type "Exception", .type "BaseException", .type "object"] : List Value) = [CE].map Value.ref ++ tyL := rfl
    rw [e1, has_ref, decide_eq_false]
    intro hm
    exact ne D hD (by simpa using hm)
end My
set_option Elab.async false
set_option linter.all false
set_option maxRecDepth 100000
set_option autoImplicit false
set_option pp.deepTerms false
set_option pp.deepTerms.threshold 7
set_option pp.maxSteps 3000
set_option maxHeartbeats 8000000
namespace My
open PySem L2 DL PyProof.Rows
/-! ### the end -/
theorem exm_is {K : PySem.W.Frag} {S T : Addr} {r : Bool} (h1 : PySem.W.subIn K (.ref T) (.type "BaseException") = some true) (h2 : PySem.W.isClsIn K T = true) (h3 : PySem.W.typeIn K (.ref T) = some (.type "type")) (h4 : PySem.W.subIn K (.ref S) (.ref T) = some r) : PySem.W.exmOne K (.ref S) (.ref T) = some r := by
  have e1 : (PySem.W.subIn K (.ref T) (.type "BaseException") == some true) = true := by rw [h1]; rfl
  have e2 : ((PySem.W.clsIn K T).isSome && PySem.W.typeIn K (.ref T) == some (.type "type")) = true := by
    have h2' : (PySem.W.clsIn K T).isSome = true := h2
    rw [h2', h3]; rfl
  unfold PySem.W.exmOne PySem.W.kitCls
  rw [if_pos e1]
  exact (if_pos e2).trans h4
theorem kit_is {K : PySem.W.Frag} {S T : Addr} (h2 : PySem.W.isClsIn K T = true) (h3 : PySem.W.typeIn K (.ref T) = some (.type "type")) (h4 : PySem.W.subIn K (.ref S) (.ref T) = some true) : PySem.W.kitOne K (.ref S) (.ref T) = some true := by
  have e2 : ((PySem.W.clsIn K T).isSome && PySem.W.typeIn K (.ref T) == some (.type "type")) = true := by
    have h2' : (PySem.W.clsIn K T).isSome = true := h2
    rw [h2', h3]; rfl
  unfold PySem.W.kitOne
  split
  · rfl
  · unfold PySem.W.kitCls
    exact (if_pos e2).trans h4
theorem all_mk {l : PySem.W.OpenLaw} {w : World} {K : PySem.W.Frag} {h : Heap} {mg : Str → Option Value} {fa x0 x1 x2 x3 x4 x5 x6 x7 x8 x9 CE x10 x11 x12 x13 x14 x15 x16 x17 x18 x19 f1 f2 f3 f4 f5 f6 f7 f8 f9 f10 f11 f12 f13 f14 f15 f16 f17 : Addr} (X : K.In h) (G : h.Ns mainGlobals mg) (hfa : mg "law" = some (.ref fa))
    {od1 an1 od2 an2 od3 an3 od4 an4 od5 an5 od6 an6 od7 an7 od8 an8 od9 an9 od10 an10 od11 an11 od12 an12 od13 an13 od14 an14 od15 an15 od16 an16 od17 an17 : Option Addr} {sl1 sl2 sl3 sl4 sl5 sl6 sl7 sl8 sl9 sl10 sl11 sl12 sl13 sl14 sl15 sl16 sl17 : Array (Option Value)} {oc1 kV1 dc1 pm1 cd1 ct1 oc2 kV2 dc2 pm2 cd2 ct2 oc3 kV3 dc3 pm3 cd3 ct3 oc4 kV4 dc4 pm4 cd4 ct4 oc5 kV5 dc5 pm5 cd5 ct5 oc6 kV6 dc6 pm6 cd6 ct6 oc7 kV7 dc7 pm7 cd7 ct7 oc8 kV8 dc8 pm8 cd8 ct8 oc9 kV9 dc9 pm9 cd9 ct9 oc10 kV10 dc10 pm10 cd10 ct10 oc11 kV11 dc11 pm11 cd11 ct11 oc12 kV12 dc12 pm12 cd12 ct12 oc13 kV13 dc13 pm13 cd13 ct13 oc14 kV14 dc14 pm14 cd14 ct14 oc15 kV15 dc15 pm15 cd15 ct15 oc16 kV16 dc16 pm16 cd16 ct16 oc17 kV17 dc17 pm17 cd17 ct17 : Value} 
    {nmR10 : _} {qnR10 : _} {nsR10 : _} {bsR10 : _} {bmR10 : _} {snR10 : _} {suR10 : _} {abR10 : _} {coR10 : _} {xdR10 : _} {k0R10 : _} {k1R10 : _} {k2R10 : _} {k3R10 : _} {k5R10 : _}
    {nmR11 : _} {qnR11 : _} {nsR11 : _} {bsR11 : _} {bmR11 : _} {snR11 : _} {suR11 : _} {abR11 : _} {coR11 : _} {xdR11 : _} {k0R11 : _} {k1R11 : _} {k2R11 : _} {k3R11 : _} {k5R11 : _}
    {nmR12 : _} {qnR12 : _} {nsR12 : _} {bsR12 : _} {bmR12 : _} {snR12 : _} {suR12 : _} {abR12 : _} {coR12 : _} {xdR12 : _} {k0R12 : _} {k1R12 : _} {k2R12 : _} {k3R12 : _} {k5R12 : _}
    {nmR13 : _} {qnR13 : _} {nsR13 : _} {bsR13 : _} {bmR13 : _} {snR13 : _} {suR13 : _} {abR13 : _} {coR13 : _} {xdR13 : _} {k0R13 : _} {k1R13 : _} {k2R13 : _} {k3R13 : _} {k5R13 : _}
    {nmR14 : _} {qnR14 : _} {nsR14 : _} {bsR14 : _} {bmR14 : _} {snR14 : _} {suR14 : _} {abR14 : _} {coR14 : _} {xdR14 : _} {k0R14 : _} {k1R14 : _} {k2R14 : _} {k3R14 : _} {k5R14 : _}
    {nmR15 : _} {qnR15 : _} {nsR15 : _} {bsR15 : _} {bmR15 : _} {snR15 : _} {suR15 : _} {abR15 : _} {coR15 : _} {xdR15 : _} {k0R15 : _} {k1R15 : _} {k2R15 : _} {k3R15 : _} {k5R15 : _}
    {nmR16 : _} {qnR16 : _} {nsR16 : _} {bsR16 : _} {bmR16 : _} {snR16 : _} {suR16 : _} {abR16 : _} {coR16 : _} {xdR16 : _} {k0R16 : _} {k1R16 : _} {k2R16 : _} {k3R16 : _} {k5R16 : _}
    {nmR17 : _} {qnR17 : _} {nsR17 : _} {bsR17 : _} {bmR17 : _} {snR17 : _} {suR17 : _} {abR17 : _} {coR17 : _} {xdR17 : _} {k0R17 : _} {k1R17 : _} {k2R17 : _} {k3R17 : _} {k5R17 : _}
    {nmR18 : _} {qnR18 : _} {nsR18 : _} {bsR18 : _} {bmR18 : _} {snR18 : _} {suR18 : _} {abR18 : _} {coR18 : _} {xdR18 : _} {k0R18 : _} {k1R18 : _} {k2R18 : _} {k3R18 : _} {k5R18 : _}
    {nmR19 : _} {qnR19 : _} {nsR19 : _} {bsR19 : _} {bmR19 : _} {snR19 : _} {suR19 : _} {abR19 : _} {coR19 : _} {xdR19 : _} {k0R19 : _} {k1R19 : _} {k2R19 : _} {k3R19 : _} {k5R19 : _}
    {cdv0 cdv1 cdv2 cdv3 cdv4 cdv5 cdv6 cdv7 cdv8 cdv9 cdv10 cdv11 cdv12 cdv13 cdv14 cdv15 cdv16 cdv17 cdv18 cdv19 cdv20 : PySem.ClassData}
    (aQ0 : PySem.W.nsIn K mainGlobals "BadPremiums" = some (some (.ref x0)))
    (aQ1 : PySem.W.nsIn K mainGlobals "BadTable" = some (some (.ref x1)))
    (aQ2 : PySem.W.nsIn K mainGlobals "BadSteps" = some (some (.ref x2)))
    (aQ3 : PySem.W.nsIn K mainGlobals "BadOrder" = some (some (.ref x3)))
    (aQ4 : PySem.W.nsIn K mainGlobals "BadRows" = some (some (.ref x4)))
    (aQ5 : PySem.W.nsIn K mainGlobals "BadDamages" = some (some (.ref x5)))
    (aQ6 : PySem.W.nsIn K mainGlobals "BadHouses" = some (some (.ref x6)))
    (aQ7 : PySem.W.nsIn K mainGlobals "BadWays" = some (some (.ref x7)))
    (aQ8 : PySem.W.nsIn K mainGlobals "BadPlan" = some (some (.ref x8)))
    (aQ9 : PySem.W.nsIn K mainGlobals "NothingToUndo" = some (some (.ref x9)))
    (aQE : PySem.W.nsIn K mainGlobals "ClaimError" = some (some (.ref CE)))
    (aR10 : PySem.W.nsIn K mainGlobals "NoClass" = some (some (.ref x10)))
    (aR11 : PySem.W.nsIn K mainGlobals "BadClaims" = some (some (.ref x11)))
    (aR12 : PySem.W.nsIn K mainGlobals "TooMany" = some (some (.ref x12)))
    (aR13 : PySem.W.nsIn K mainGlobals "BadYears" = some (some (.ref x13)))
    (aR14 : PySem.W.nsIn K mainGlobals "NoPlace" = some (some (.ref x14)))
    (aR15 : PySem.W.nsIn K mainGlobals "Billed" = some (some (.ref x15)))
    (aR16 : PySem.W.nsIn K mainGlobals "NotBilled" = some (some (.ref x16)))
    (aR17 : PySem.W.nsIn K mainGlobals "BadName" = some (some (.ref x17)))
    (aR18 : PySem.W.nsIn K mainGlobals "NameTaken" = some (some (.ref x18)))
    (aR19 : PySem.W.nsIn K mainGlobals "NoPolicy" = some (some (.ref x19)))
    (aCE : PySem.W.nsIn K mainGlobals "ClaimError" = some (some (.ref CE)))
    (a1 : PySem.W.nsIn K mainGlobals "_law_bag" = some (some (.ref f1)))
    (l1 : K.lookup f1 = some ⟨oc1, od1, .func (PySem.W.fnOf "_law_bag" "_law_bag" (defArgs s_l_bag) (defBody s_l_bag) (defScope s_l_bag) .none kV1 dc1 pm1 an1 cd1 ct1), sl1⟩)
    (c1 : PySem.W.codeIn K cd1 "_law_bag" = true)
    (k1 : PySem.W.keepIn K (.ref f1) = true)
    (a2 : PySem.W.nsIn K mainGlobals "_law_draw" = some (some (.ref f2)))
    (l2 : K.lookup f2 = some ⟨oc2, od2, .func (PySem.W.fnOf "_law_draw" "_law_draw" (defArgs s_l_draw) (defBody s_l_draw) (defScope s_l_draw) .none kV2 dc2 pm2 an2 cd2 ct2), sl2⟩)
    (c2 : PySem.W.codeIn K cd2 "_law_draw" = true)
    (k2 : PySem.W.keepIn K (.ref f2) = true)
    (a3 : PySem.W.nsIn K mainGlobals "_law_mixed" = some (some (.ref f3)))
    (l3 : K.lookup f3 = some ⟨oc3, od3, .func (PySem.W.fnOf "_law_mixed" "_law_mixed" (defArgs s_l_mixed) (defBody s_l_mixed) (defScope s_l_mixed) .none kV3 dc3 pm3 an3 cd3 ct3), sl3⟩)
    (c3 : PySem.W.codeIn K cd3 "_law_mixed" = true)
    (k3 : PySem.W.keepIn K (.ref f3) = true)
    (a4 : PySem.W.nsIn K mainGlobals "_law_kinds" = some (some (.ref f4)))
    (l4 : K.lookup f4 = some ⟨oc4, od4, .func (PySem.W.fnOf "_law_kinds" "_law_kinds" (defArgs s_l_kinds) (defBody s_l_kinds) (defScope s_l_kinds) .none kV4 dc4 pm4 an4 cd4 ct4), sl4⟩)
    (c4 : PySem.W.codeIn K cd4 "_law_kinds" = true)
    (k4 : PySem.W.keepIn K (.ref f4) = true)
    (a5 : PySem.W.nsIn K mainGlobals "_law_errors" = some (some (.ref f5)))
    (l5 : K.lookup f5 = some ⟨oc5, od5, .func (PySem.W.fnOf "_law_errors" "_law_errors" (defArgs s_l_errors) (defBody s_l_errors) (defScope s_l_errors) .none kV5 dc5 pm5 an5 cd5 ct5), sl5⟩)
    (c5 : PySem.W.codeIn K cd5 "_law_errors" = true)
    (k5 : PySem.W.keepIn K (.ref f5) = true)
    (a6 : PySem.W.nsIn K mainGlobals "_law_parts" = some (some (.ref f6)))
    (l6 : K.lookup f6 = some ⟨oc6, od6, .func (PySem.W.fnOf "_law_parts" "_law_parts" (defArgs s_l_parts) (defBody s_l_parts) (defScope s_l_parts) .none kV6 dc6 pm6 an6 cd6 ct6), sl6⟩)
    (c6 : PySem.W.codeIn K cd6 "_law_parts" = true)
    (k6 : PySem.W.keepIn K (.ref f6) = true)
    (a7 : PySem.W.nsIn K mainGlobals "law" = some (some (.ref f7)))
    (l7 : K.lookup f7 = some ⟨oc7, od7, .func (PySem.W.fnOf "law" "law" (defArgs s_law) (defBody s_law) (defScope s_law) .none kV7 dc7 pm7 an7 cd7 ct7), sl7⟩)
    (c7 : PySem.W.codeIn K cd7 "law" = true)
    (k7 : PySem.W.keepIn K (.ref f7) = true)
    (a8 : PySem.W.findIn K (.ref x10) "__init__" = some (some (.ref f8)))
    (i8 : PySem.W.typeIn K (.ref f8) = some (.type "function"))
    (l8 : K.lookup f8 = some ⟨oc8, od8, .func (PySem.W.fnOf "__init__" "NoClass.__init__" (defArgs s_NoClass_init) (defBody s_NoClass_init) (defScope s_NoClass_init) .none kV8 dc8 pm8 an8 cd8 ct8), sl8⟩)
    (c8 : PySem.W.codeIn K cd8 "NoClass.__init__" = true)
    (k8 : PySem.W.keepIn K (.ref f8) = true)
    (oR10 : K.lookup x10 = some (excClassObj nmR10 qnR10 x10 nsR10 bsR10 bmR10 true snR10 suR10 abR10 coR10 xdR10 k0R10 k1R10 k2R10 k3R10 k5R10 "ValueError.__new__"))
    (rvR10 : PySem.HandSPX.refsVE bmR10 = true)
    (stR10 : PySem.W.findIn K (.ref x10) "__setattr__" = some (some (.builtin "object.__setattr__")))
    (noR10 : PySem.W.findIn K (.ref x10) "at" = some none)
    (a9 : PySem.W.findIn K (.ref x11) "__init__" = some (some (.ref f9)))
    (i9 : PySem.W.typeIn K (.ref f9) = some (.type "function"))
    (l9 : K.lookup f9 = some ⟨oc9, od9, .func (PySem.W.fnOf "__init__" "BadClaims.__init__" (defArgs s_BadClaims_init) (defBody s_BadClaims_init) (defScope s_BadClaims_init) .none kV9 dc9 pm9 an9 cd9 ct9), sl9⟩)
    (c9 : PySem.W.codeIn K cd9 "BadClaims.__init__" = true)
    (k9 : PySem.W.keepIn K (.ref f9) = true)
    (oR11 : K.lookup x11 = some (excClassObj nmR11 qnR11 x11 nsR11 bsR11 bmR11 true snR11 suR11 abR11 coR11 xdR11 k0R11 k1R11 k2R11 k3R11 k5R11 "ValueError.__new__"))
    (rvR11 : PySem.HandSPX.refsVE bmR11 = true)
    (stR11 : PySem.W.findIn K (.ref x11) "__setattr__" = some (some (.builtin "object.__setattr__")))
    (noR11 : PySem.W.findIn K (.ref x11) "claims" = some none)
    (a10 : PySem.W.findIn K (.ref x12) "__init__" = some (some (.ref f10)))
    (i10 : PySem.W.typeIn K (.ref f10) = some (.type "function"))
    (l10 : K.lookup f10 = some ⟨oc10, od10, .func (PySem.W.fnOf "__init__" "TooMany.__init__" (defArgs s_TooMany_init) (defBody s_TooMany_init) (defScope s_TooMany_init) .none kV10 dc10 pm10 an10 cd10 ct10), sl10⟩)
    (c10 : PySem.W.codeIn K cd10 "TooMany.__init__" = true)
    (k10 : PySem.W.keepIn K (.ref f10) = true)
    (oR12 : K.lookup x12 = some (excClassObj nmR12 qnR12 x12 nsR12 bsR12 bmR12 true snR12 suR12 abR12 coR12 xdR12 k0R12 k1R12 k2R12 k3R12 k5R12 "ValueError.__new__"))
    (rvR12 : PySem.HandSPX.refsVE bmR12 = true)
    (stR12 : PySem.W.findIn K (.ref x12) "__setattr__" = some (some (.builtin "object.__setattr__")))
    (noR12 : PySem.W.findIn K (.ref x12) "count" = some none)
    (a11 : PySem.W.findIn K (.ref x13) "__init__" = some (some (.ref f11)))
    (i11 : PySem.W.typeIn K (.ref f11) = some (.type "function"))
    (l11 : K.lookup f11 = some ⟨oc11, od11, .func (PySem.W.fnOf "__init__" "BadYears.__init__" (defArgs s_BadYears_init) (defBody s_BadYears_init) (defScope s_BadYears_init) .none kV11 dc11 pm11 an11 cd11 ct11), sl11⟩)
    (c11 : PySem.W.codeIn K cd11 "BadYears.__init__" = true)
    (k11 : PySem.W.keepIn K (.ref f11) = true)
    (oR13 : K.lookup x13 = some (excClassObj nmR13 qnR13 x13 nsR13 bsR13 bmR13 true snR13 suR13 abR13 coR13 xdR13 k0R13 k1R13 k2R13 k3R13 k5R13 "ValueError.__new__"))
    (rvR13 : PySem.HandSPX.refsVE bmR13 = true)
    (stR13 : PySem.W.findIn K (.ref x13) "__setattr__" = some (some (.builtin "object.__setattr__")))
    (noR13 : PySem.W.findIn K (.ref x13) "years" = some none)
    (a12 : PySem.W.findIn K (.ref x14) "__init__" = some (some (.ref f12)))
    (i12 : PySem.W.typeIn K (.ref f12) = some (.type "function"))
    (l12 : K.lookup f12 = some ⟨oc12, od12, .func (PySem.W.fnOf "__init__" "NoPlace.__init__" (defArgs s_NoPlace_init) (defBody s_NoPlace_init) (defScope s_NoPlace_init) .none kV12 dc12 pm12 an12 cd12 ct12), sl12⟩)
    (c12 : PySem.W.codeIn K cd12 "NoPlace.__init__" = true)
    (k12 : PySem.W.keepIn K (.ref f12) = true)
    (oR14 : K.lookup x14 = some (excClassObj nmR14 qnR14 x14 nsR14 bsR14 bmR14 true snR14 suR14 abR14 coR14 xdR14 k0R14 k1R14 k2R14 k3R14 k5R14 "ValueError.__new__"))
    (rvR14 : PySem.HandSPX.refsVE bmR14 = true)
    (stR14 : PySem.W.findIn K (.ref x14) "__setattr__" = some (some (.builtin "object.__setattr__")))
    (noR14 : PySem.W.findIn K (.ref x14) "place" = some none)
    (a13 : PySem.W.findIn K (.ref x15) "__init__" = some (some (.ref f13)))
    (i13 : PySem.W.typeIn K (.ref f13) = some (.type "function"))
    (l13 : K.lookup f13 = some ⟨oc13, od13, .func (PySem.W.fnOf "__init__" "Billed.__init__" (defArgs s_Billed_init) (defBody s_Billed_init) (defScope s_Billed_init) .none kV13 dc13 pm13 an13 cd13 ct13), sl13⟩)
    (c13 : PySem.W.codeIn K cd13 "Billed.__init__" = true)
    (k13 : PySem.W.keepIn K (.ref f13) = true)
    (oR15 : K.lookup x15 = some (excClassObj nmR15 qnR15 x15 nsR15 bsR15 bmR15 true snR15 suR15 abR15 coR15 xdR15 k0R15 k1R15 k2R15 k3R15 k5R15 "ValueError.__new__"))
    (rvR15 : PySem.HandSPX.refsVE bmR15 = true)
    (stR15 : PySem.W.findIn K (.ref x15) "__setattr__" = some (some (.builtin "object.__setattr__")))
    (noR15 : PySem.W.findIn K (.ref x15) "year" = some none)
    (a14 : PySem.W.findIn K (.ref x16) "__init__" = some (some (.ref f14)))
    (i14 : PySem.W.typeIn K (.ref f14) = some (.type "function"))
    (l14 : K.lookup f14 = some ⟨oc14, od14, .func (PySem.W.fnOf "__init__" "NotBilled.__init__" (defArgs s_NotBilled_init) (defBody s_NotBilled_init) (defScope s_NotBilled_init) .none kV14 dc14 pm14 an14 cd14 ct14), sl14⟩)
    (c14 : PySem.W.codeIn K cd14 "NotBilled.__init__" = true)
    (k14 : PySem.W.keepIn K (.ref f14) = true)
    (oR16 : K.lookup x16 = some (excClassObj nmR16 qnR16 x16 nsR16 bsR16 bmR16 true snR16 suR16 abR16 coR16 xdR16 k0R16 k1R16 k2R16 k3R16 k5R16 "ValueError.__new__"))
    (rvR16 : PySem.HandSPX.refsVE bmR16 = true)
    (stR16 : PySem.W.findIn K (.ref x16) "__setattr__" = some (some (.builtin "object.__setattr__")))
    (noR16 : PySem.W.findIn K (.ref x16) "year" = some none)
    (a15 : PySem.W.findIn K (.ref x17) "__init__" = some (some (.ref f15)))
    (i15 : PySem.W.typeIn K (.ref f15) = some (.type "function"))
    (l15 : K.lookup f15 = some ⟨oc15, od15, .func (PySem.W.fnOf "__init__" "BadName.__init__" (defArgs s_BadName_init) (defBody s_BadName_init) (defScope s_BadName_init) .none kV15 dc15 pm15 an15 cd15 ct15), sl15⟩)
    (c15 : PySem.W.codeIn K cd15 "BadName.__init__" = true)
    (k15 : PySem.W.keepIn K (.ref f15) = true)
    (oR17 : K.lookup x17 = some (excClassObj nmR17 qnR17 x17 nsR17 bsR17 bmR17 true snR17 suR17 abR17 coR17 xdR17 k0R17 k1R17 k2R17 k3R17 k5R17 "ValueError.__new__"))
    (rvR17 : PySem.HandSPX.refsVE bmR17 = true)
    (stR17 : PySem.W.findIn K (.ref x17) "__setattr__" = some (some (.builtin "object.__setattr__")))
    (noR17 : PySem.W.findIn K (.ref x17) "name" = some none)
    (a16 : PySem.W.findIn K (.ref x18) "__init__" = some (some (.ref f16)))
    (i16 : PySem.W.typeIn K (.ref f16) = some (.type "function"))
    (l16 : K.lookup f16 = some ⟨oc16, od16, .func (PySem.W.fnOf "__init__" "NameTaken.__init__" (defArgs s_NameTaken_init) (defBody s_NameTaken_init) (defScope s_NameTaken_init) .none kV16 dc16 pm16 an16 cd16 ct16), sl16⟩)
    (c16 : PySem.W.codeIn K cd16 "NameTaken.__init__" = true)
    (k16 : PySem.W.keepIn K (.ref f16) = true)
    (oR18 : K.lookup x18 = some (excClassObj nmR18 qnR18 x18 nsR18 bsR18 bmR18 true snR18 suR18 abR18 coR18 xdR18 k0R18 k1R18 k2R18 k3R18 k5R18 "ValueError.__new__"))
    (rvR18 : PySem.HandSPX.refsVE bmR18 = true)
    (stR18 : PySem.W.findIn K (.ref x18) "__setattr__" = some (some (.builtin "object.__setattr__")))
    (noR18 : PySem.W.findIn K (.ref x18) "name" = some none)
    (a17 : PySem.W.findIn K (.ref x19) "__init__" = some (some (.ref f17)))
    (i17 : PySem.W.typeIn K (.ref f17) = some (.type "function"))
    (l17 : K.lookup f17 = some ⟨oc17, od17, .func (PySem.W.fnOf "__init__" "NoPolicy.__init__" (defArgs s_NoPolicy_init) (defBody s_NoPolicy_init) (defScope s_NoPolicy_init) .none kV17 dc17 pm17 an17 cd17 ct17), sl17⟩)
    (c17 : PySem.W.codeIn K cd17 "NoPolicy.__init__" = true)
    (k17 : PySem.W.keepIn K (.ref f17) = true)
    (oR19 : K.lookup x19 = some (excClassObj nmR19 qnR19 x19 nsR19 bsR19 bmR19 true snR19 suR19 abR19 coR19 xdR19 k0R19 k1R19 k2R19 k3R19 k5R19 "ValueError.__new__"))
    (rvR19 : PySem.HandSPX.refsVE bmR19 = true)
    (stR19 : PySem.W.findIn K (.ref x19) "__setattr__" = some (some (.builtin "object.__setattr__")))
    (noR19 : PySem.W.findIn K (.ref x19) "name" = some none)
    (qQ0 : PySem.W.excIn K x0 [.type "ValueError", .type "Exception", .type "BaseException", .type "object"] "ValueError.__new__" = true)
    (kpQ0 : PySem.W.keepIn K (.ref x0) = true)
    (sbQ0 : PySem.W.subIn K (.ref x0) (.type "BaseException") = some true)
    (tyQ0 : PySem.W.typeIn K (.ref x0) = some (.type "type"))
    (hgQ0 : PySem.W.findIn K (.ref x0) "__getattribute__" = some (some (.builtin "BaseException.__getattribute__")))
    (hkQ0 : PySem.W.findIn K (.ref x0) "__getattr__" = some none)
    (ddQ0 : PySem.W.hasDictIn K x0 = true)
    (haQ0 : PySem.W.findIn K (.ref x0) "__class__" = some (some (.builtin "object.__class__")))
    (hmQ0 : PySem.W.mroIn K x0 (.type "object") = some true)
    (icQ0 : PySem.W.isClsIn K x0 = true)
    (qQ1 : PySem.W.excIn K x1 [.type "ValueError", .type "Exception", .type "BaseException", .type "object"] "ValueError.__new__" = true)
    (kpQ1 : PySem.W.keepIn K (.ref x1) = true)
    (sbQ1 : PySem.W.subIn K (.ref x1) (.type "BaseException") = some true)
    (tyQ1 : PySem.W.typeIn K (.ref x1) = some (.type "type"))
    (hgQ1 : PySem.W.findIn K (.ref x1) "__getattribute__" = some (some (.builtin "BaseException.__getattribute__")))
    (hkQ1 : PySem.W.findIn K (.ref x1) "__getattr__" = some none)
    (ddQ1 : PySem.W.hasDictIn K x1 = true)
    (haQ1 : PySem.W.findIn K (.ref x1) "__class__" = some (some (.builtin "object.__class__")))
    (hmQ1 : PySem.W.mroIn K x1 (.type "object") = some true)
    (icQ1 : PySem.W.isClsIn K x1 = true)
    (qQ2 : PySem.W.excIn K x2 [.type "ValueError", .type "Exception", .type "BaseException", .type "object"] "ValueError.__new__" = true)
    (kpQ2 : PySem.W.keepIn K (.ref x2) = true)
    (sbQ2 : PySem.W.subIn K (.ref x2) (.type "BaseException") = some true)
    (tyQ2 : PySem.W.typeIn K (.ref x2) = some (.type "type"))
    (hgQ2 : PySem.W.findIn K (.ref x2) "__getattribute__" = some (some (.builtin "BaseException.__getattribute__")))
    (hkQ2 : PySem.W.findIn K (.ref x2) "__getattr__" = some none)
    (ddQ2 : PySem.W.hasDictIn K x2 = true)
    (haQ2 : PySem.W.findIn K (.ref x2) "__class__" = some (some (.builtin "object.__class__")))
    (hmQ2 : PySem.W.mroIn K x2 (.type "object") = some true)
    (icQ2 : PySem.W.isClsIn K x2 = true)
    (qQ3 : PySem.W.excIn K x3 [.type "ValueError", .type "Exception", .type "BaseException", .type "object"] "ValueError.__new__" = true)
    (kpQ3 : PySem.W.keepIn K (.ref x3) = true)
    (sbQ3 : PySem.W.subIn K (.ref x3) (.type "BaseException") = some true)
    (tyQ3 : PySem.W.typeIn K (.ref x3) = some (.type "type"))
    (hgQ3 : PySem.W.findIn K (.ref x3) "__getattribute__" = some (some (.builtin "BaseException.__getattribute__")))
    (hkQ3 : PySem.W.findIn K (.ref x3) "__getattr__" = some none)
    (ddQ3 : PySem.W.hasDictIn K x3 = true)
    (haQ3 : PySem.W.findIn K (.ref x3) "__class__" = some (some (.builtin "object.__class__")))
    (hmQ3 : PySem.W.mroIn K x3 (.type "object") = some true)
    (icQ3 : PySem.W.isClsIn K x3 = true)
    (qQ4 : PySem.W.excIn K x4 [.type "ValueError", .type "Exception", .type "BaseException", .type "object"] "ValueError.__new__" = true)
    (kpQ4 : PySem.W.keepIn K (.ref x4) = true)
    (sbQ4 : PySem.W.subIn K (.ref x4) (.type "BaseException") = some true)
    (tyQ4 : PySem.W.typeIn K (.ref x4) = some (.type "type"))
    (hgQ4 : PySem.W.findIn K (.ref x4) "__getattribute__" = some (some (.builtin "BaseException.__getattribute__")))
    (hkQ4 : PySem.W.findIn K (.ref x4) "__getattr__" = some none)
    (ddQ4 : PySem.W.hasDictIn K x4 = true)
    (haQ4 : PySem.W.findIn K (.ref x4) "__class__" = some (some (.builtin "object.__class__")))
    (hmQ4 : PySem.W.mroIn K x4 (.type "object") = some true)
    (icQ4 : PySem.W.isClsIn K x4 = true)
    (qQ5 : PySem.W.excIn K x5 [.type "ValueError", .type "Exception", .type "BaseException", .type "object"] "ValueError.__new__" = true)
    (kpQ5 : PySem.W.keepIn K (.ref x5) = true)
    (sbQ5 : PySem.W.subIn K (.ref x5) (.type "BaseException") = some true)
    (tyQ5 : PySem.W.typeIn K (.ref x5) = some (.type "type"))
    (hgQ5 : PySem.W.findIn K (.ref x5) "__getattribute__" = some (some (.builtin "BaseException.__getattribute__")))
    (hkQ5 : PySem.W.findIn K (.ref x5) "__getattr__" = some none)
    (ddQ5 : PySem.W.hasDictIn K x5 = true)
    (haQ5 : PySem.W.findIn K (.ref x5) "__class__" = some (some (.builtin "object.__class__")))
    (hmQ5 : PySem.W.mroIn K x5 (.type "object") = some true)
    (icQ5 : PySem.W.isClsIn K x5 = true)
    (qQ6 : PySem.W.excIn K x6 [.type "ValueError", .type "Exception", .type "BaseException", .type "object"] "ValueError.__new__" = true)
    (kpQ6 : PySem.W.keepIn K (.ref x6) = true)
    (sbQ6 : PySem.W.subIn K (.ref x6) (.type "BaseException") = some true)
    (tyQ6 : PySem.W.typeIn K (.ref x6) = some (.type "type"))
    (hgQ6 : PySem.W.findIn K (.ref x6) "__getattribute__" = some (some (.builtin "BaseException.__getattribute__")))
    (hkQ6 : PySem.W.findIn K (.ref x6) "__getattr__" = some none)
    (ddQ6 : PySem.W.hasDictIn K x6 = true)
    (haQ6 : PySem.W.findIn K (.ref x6) "__class__" = some (some (.builtin "object.__class__")))
    (hmQ6 : PySem.W.mroIn K x6 (.type "object") = some true)
    (icQ6 : PySem.W.isClsIn K x6 = true)
    (qQ7 : PySem.W.excIn K x7 [.type "ValueError", .type "Exception", .type "BaseException", .type "object"] "ValueError.__new__" = true)
    (kpQ7 : PySem.W.keepIn K (.ref x7) = true)
    (sbQ7 : PySem.W.subIn K (.ref x7) (.type "BaseException") = some true)
    (tyQ7 : PySem.W.typeIn K (.ref x7) = some (.type "type"))
    (hgQ7 : PySem.W.findIn K (.ref x7) "__getattribute__" = some (some (.builtin "BaseException.__getattribute__")))
    (hkQ7 : PySem.W.findIn K (.ref x7) "__getattr__" = some none)
    (ddQ7 : PySem.W.hasDictIn K x7 = true)
    (haQ7 : PySem.W.findIn K (.ref x7) "__class__" = some (some (.builtin "object.__class__")))
    (hmQ7 : PySem.W.mroIn K x7 (.type "object") = some true)
    (icQ7 : PySem.W.isClsIn K x7 = true)
    (qQ8 : PySem.W.excIn K x8 [.type "ValueError", .type "Exception", .type "BaseException", .type "object"] "ValueError.__new__" = true)
    (kpQ8 : PySem.W.keepIn K (.ref x8) = true)
    (sbQ8 : PySem.W.subIn K (.ref x8) (.type "BaseException") = some true)
    (tyQ8 : PySem.W.typeIn K (.ref x8) = some (.type "type"))
    (hgQ8 : PySem.W.findIn K (.ref x8) "__getattribute__" = some (some (.builtin "BaseException.__getattribute__")))
    (hkQ8 : PySem.W.findIn K (.ref x8) "__getattr__" = some none)
    (ddQ8 : PySem.W.hasDictIn K x8 = true)
    (haQ8 : PySem.W.findIn K (.ref x8) "__class__" = some (some (.builtin "object.__class__")))
    (hmQ8 : PySem.W.mroIn K x8 (.type "object") = some true)
    (icQ8 : PySem.W.isClsIn K x8 = true)
    (qQ9 : PySem.W.excIn K x9 [.type "ValueError", .type "Exception", .type "BaseException", .type "object"] "ValueError.__new__" = true)
    (kpQ9 : PySem.W.keepIn K (.ref x9) = true)
    (sbQ9 : PySem.W.subIn K (.ref x9) (.type "BaseException") = some true)
    (tyQ9 : PySem.W.typeIn K (.ref x9) = some (.type "type"))
    (hgQ9 : PySem.W.findIn K (.ref x9) "__getattribute__" = some (some (.builtin "BaseException.__getattribute__")))
    (hkQ9 : PySem.W.findIn K (.ref x9) "__getattr__" = some none)
    (ddQ9 : PySem.W.hasDictIn K x9 = true)
    (haQ9 : PySem.W.findIn K (.ref x9) "__class__" = some (some (.builtin "object.__class__")))
    (hmQ9 : PySem.W.mroIn K x9 (.type "object") = some true)
    (icQ9 : PySem.W.isClsIn K x9 = true)
    (qQE : PySem.W.excIn K CE [.type "ValueError", .type "Exception", .type "BaseException", .type "object"] "ValueError.__new__" = true)
    (kpQE : PySem.W.keepIn K (.ref CE) = true)
    (sbQE : PySem.W.subIn K (.ref CE) (.type "BaseException") = some true)
    (tyQE : PySem.W.typeIn K (.ref CE) = some (.type "type"))
    (hgQE : PySem.W.findIn K (.ref CE) "__getattribute__" = some (some (.builtin "BaseException.__getattribute__")))
    (hkQE : PySem.W.findIn K (.ref CE) "__getattr__" = some none)
    (ddQE : PySem.W.hasDictIn K CE = true)
    (haQE : PySem.W.findIn K (.ref CE) "__class__" = some (some (.builtin "object.__class__")))
    (hmQE : PySem.W.mroIn K CE (.type "object") = some true)
    (icQE : PySem.W.isClsIn K CE = true)
    (kpR10 : PySem.W.keepIn K (.ref x10) = true)
    (sbR10 : PySem.W.subIn K (.ref x10) (.type "BaseException") = some true)
    (tyR10 : PySem.W.typeIn K (.ref x10) = some (.type "type"))
    (hgR10 : PySem.W.findIn K (.ref x10) "__getattribute__" = some (some (.builtin "BaseException.__getattribute__")))
    (hkR10 : PySem.W.findIn K (.ref x10) "__getattr__" = some none)
    (ddR10 : PySem.W.hasDictIn K x10 = true)
    (haR10 : PySem.W.findIn K (.ref x10) "__class__" = some (some (.builtin "object.__class__")))
    (hmR10 : PySem.W.mroIn K x10 (.type "object") = some true)
    (icR10 : PySem.W.isClsIn K x10 = true)
    (kpR11 : PySem.W.keepIn K (.ref x11) = true)
    (sbR11 : PySem.W.subIn K (.ref x11) (.type "BaseException") = some true)
    (tyR11 : PySem.W.typeIn K (.ref x11) = some (.type "type"))
    (hgR11 : PySem.W.findIn K (.ref x11) "__getattribute__" = some (some (.builtin "BaseException.__getattribute__")))
    (hkR11 : PySem.W.findIn K (.ref x11) "__getattr__" = some none)
    (ddR11 : PySem.W.hasDictIn K x11 = true)
    (haR11 : PySem.W.findIn K (.ref x11) "__class__" = some (some (.builtin "object.__class__")))
    (hmR11 : PySem.W.mroIn K x11 (.type "object") = some true)
    (icR11 : PySem.W.isClsIn K x11 = true)
    (kpR12 : PySem.W.keepIn K (.ref x12) = true)
    (sbR12 : PySem.W.subIn K (.ref x12) (.type "BaseException") = some true)
    (tyR12 : PySem.W.typeIn K (.ref x12) = some (.type "type"))
    (hgR12 : PySem.W.findIn K (.ref x12) "__getattribute__" = some (some (.builtin "BaseException.__getattribute__")))
    (hkR12 : PySem.W.findIn K (.ref x12) "__getattr__" = some none)
    (ddR12 : PySem.W.hasDictIn K x12 = true)
    (haR12 : PySem.W.findIn K (.ref x12) "__class__" = some (some (.builtin "object.__class__")))
    (hmR12 : PySem.W.mroIn K x12 (.type "object") = some true)
    (icR12 : PySem.W.isClsIn K x12 = true)
    (kpR13 : PySem.W.keepIn K (.ref x13) = true)
    (sbR13 : PySem.W.subIn K (.ref x13) (.type "BaseException") = some true)
    (tyR13 : PySem.W.typeIn K (.ref x13) = some (.type "type"))
    (hgR13 : PySem.W.findIn K (.ref x13) "__getattribute__" = some (some (.builtin "BaseException.__getattribute__")))
    (hkR13 : PySem.W.findIn K (.ref x13) "__getattr__" = some none)
    (ddR13 : PySem.W.hasDictIn K x13 = true)
    (haR13 : PySem.W.findIn K (.ref x13) "__class__" = some (some (.builtin "object.__class__")))
    (hmR13 : PySem.W.mroIn K x13 (.type "object") = some true)
    (icR13 : PySem.W.isClsIn K x13 = true)
    (kpR14 : PySem.W.keepIn K (.ref x14) = true)
    (sbR14 : PySem.W.subIn K (.ref x14) (.type "BaseException") = some true)
    (tyR14 : PySem.W.typeIn K (.ref x14) = some (.type "type"))
    (hgR14 : PySem.W.findIn K (.ref x14) "__getattribute__" = some (some (.builtin "BaseException.__getattribute__")))
    (hkR14 : PySem.W.findIn K (.ref x14) "__getattr__" = some none)
    (ddR14 : PySem.W.hasDictIn K x14 = true)
    (haR14 : PySem.W.findIn K (.ref x14) "__class__" = some (some (.builtin "object.__class__")))
    (hmR14 : PySem.W.mroIn K x14 (.type "object") = some true)
    (icR14 : PySem.W.isClsIn K x14 = true)
    (kpR15 : PySem.W.keepIn K (.ref x15) = true)
    (sbR15 : PySem.W.subIn K (.ref x15) (.type "BaseException") = some true)
    (tyR15 : PySem.W.typeIn K (.ref x15) = some (.type "type"))
    (hgR15 : PySem.W.findIn K (.ref x15) "__getattribute__" = some (some (.builtin "BaseException.__getattribute__")))
    (hkR15 : PySem.W.findIn K (.ref x15) "__getattr__" = some none)
    (ddR15 : PySem.W.hasDictIn K x15 = true)
    (haR15 : PySem.W.findIn K (.ref x15) "__class__" = some (some (.builtin "object.__class__")))
    (hmR15 : PySem.W.mroIn K x15 (.type "object") = some true)
    (icR15 : PySem.W.isClsIn K x15 = true)
    (kpR16 : PySem.W.keepIn K (.ref x16) = true)
    (sbR16 : PySem.W.subIn K (.ref x16) (.type "BaseException") = some true)
    (tyR16 : PySem.W.typeIn K (.ref x16) = some (.type "type"))
    (hgR16 : PySem.W.findIn K (.ref x16) "__getattribute__" = some (some (.builtin "BaseException.__getattribute__")))
    (hkR16 : PySem.W.findIn K (.ref x16) "__getattr__" = some none)
    (ddR16 : PySem.W.hasDictIn K x16 = true)
    (haR16 : PySem.W.findIn K (.ref x16) "__class__" = some (some (.builtin "object.__class__")))
    (hmR16 : PySem.W.mroIn K x16 (.type "object") = some true)
    (icR16 : PySem.W.isClsIn K x16 = true)
    (kpR17 : PySem.W.keepIn K (.ref x17) = true)
    (sbR17 : PySem.W.subIn K (.ref x17) (.type "BaseException") = some true)
    (tyR17 : PySem.W.typeIn K (.ref x17) = some (.type "type"))
    (hgR17 : PySem.W.findIn K (.ref x17) "__getattribute__" = some (some (.builtin "BaseException.__getattribute__")))
    (hkR17 : PySem.W.findIn K (.ref x17) "__getattr__" = some none)
    (ddR17 : PySem.W.hasDictIn K x17 = true)
    (haR17 : PySem.W.findIn K (.ref x17) "__class__" = some (some (.builtin "object.__class__")))
    (hmR17 : PySem.W.mroIn K x17 (.type "object") = some true)
    (icR17 : PySem.W.isClsIn K x17 = true)
    (kpR18 : PySem.W.keepIn K (.ref x18) = true)
    (sbR18 : PySem.W.subIn K (.ref x18) (.type "BaseException") = some true)
    (tyR18 : PySem.W.typeIn K (.ref x18) = some (.type "type"))
    (hgR18 : PySem.W.findIn K (.ref x18) "__getattribute__" = some (some (.builtin "BaseException.__getattribute__")))
    (hkR18 : PySem.W.findIn K (.ref x18) "__getattr__" = some none)
    (ddR18 : PySem.W.hasDictIn K x18 = true)
    (haR18 : PySem.W.findIn K (.ref x18) "__class__" = some (some (.builtin "object.__class__")))
    (hmR18 : PySem.W.mroIn K x18 (.type "object") = some true)
    (icR18 : PySem.W.isClsIn K x18 = true)
    (kpR19 : PySem.W.keepIn K (.ref x19) = true)
    (sbR19 : PySem.W.subIn K (.ref x19) (.type "BaseException") = some true)
    (tyR19 : PySem.W.typeIn K (.ref x19) = some (.type "type"))
    (hgR19 : PySem.W.findIn K (.ref x19) "__getattribute__" = some (some (.builtin "BaseException.__getattribute__")))
    (hkR19 : PySem.W.findIn K (.ref x19) "__getattr__" = some none)
    (ddR19 : PySem.W.hasDictIn K x19 = true)
    (haR19 : PySem.W.findIn K (.ref x19) "__class__" = some (some (.builtin "object.__class__")))
    (hmR19 : PySem.W.mroIn K x19 (.type "object") = some true)
    (icR19 : PySem.W.isClsIn K x19 = true)
    (hn : PySem.W.specialIn K (.builtin "object.__class__") "__get__" = some (some (.builtin "getset_descriptor.__get__")))
    (ht : PySem.W.takesIn K (.builtin "object.__class__") = some true)
    (icCE : PySem.W.isClsIn K CE = true)
    (tyCE : PySem.W.typeIn K (.ref CE) = some (.type "type"))
    (gaCE : PySem.W.specialIn K (.ref CE) "__getattribute__" = some (some (.builtin "type.__getattribute__")))
    (rdCE : PySem.W.readsIn K CE (.type "type") = true)
    (inCE : PySem.W.findCls K (.ref CE) (.type "type") "__init__" = some (.val (.builtin "ValueError.__init__")))
    (cl0 : PySem.W.clsIn K x0 = some cdv0)
    (cl1 : PySem.W.clsIn K x1 = some cdv1)
    (cl2 : PySem.W.clsIn K x2 = some cdv2)
    (cl3 : PySem.W.clsIn K x3 = some cdv3)
    (cl4 : PySem.W.clsIn K x4 = some cdv4)
    (cl5 : PySem.W.clsIn K x5 = some cdv5)
    (cl6 : PySem.W.clsIn K x6 = some cdv6)
    (cl7 : PySem.W.clsIn K x7 = some cdv7)
    (cl8 : PySem.W.clsIn K x8 = some cdv8)
    (cl9 : PySem.W.clsIn K x9 = some cdv9)
    (cl10 : PySem.W.clsIn K x10 = some cdv10)
    (cl11 : PySem.W.clsIn K x11 = some cdv11)
    (cl12 : PySem.W.clsIn K x12 = some cdv12)
    (cl13 : PySem.W.clsIn K x13 = some cdv13)
    (cl14 : PySem.W.clsIn K x14 = some cdv14)
    (cl15 : PySem.W.clsIn K x15 = some cdv15)
    (cl16 : PySem.W.clsIn K x16 = some cdv16)
    (cl17 : PySem.W.clsIn K x17 = some cdv17)
    (cl18 : PySem.W.clsIn K x18 = some cdv18)
    (cl19 : PySem.W.clsIn K x19 = some cdv19)
    (cl20 : PySem.W.clsIn K CE = some cdv20)
    (mr0 : cdv0.mro = [.ref x0, .ref CE, .type "ValueError", .type "Exception", .type "BaseException", .type "object"])
    (mr1 : cdv1.mro = [.ref x1, .ref CE, .type "ValueError", .type "Exception", .type "BaseException", .type "object"])
    (mr2 : cdv2.mro = [.ref x2, .ref CE, .type "ValueError", .type "Exception", .type "BaseException", .type "object"])
    (mr3 : cdv3.mro = [.ref x3, .ref CE, .type "ValueError", .type "Exception", .type "BaseException", .type "object"])
    (mr4 : cdv4.mro = [.ref x4, .ref CE, .type "ValueError", .type "Exception", .type "BaseException", .type "object"])
    (mr5 : cdv5.mro = [.ref x5, .ref CE, .type "ValueError", .type "Exception", .type "BaseException", .type "object"])
    (mr6 : cdv6.mro = [.ref x6, .ref CE, .type "ValueError", .type "Exception", .type "BaseException", .type "object"])
    (mr7 : cdv7.mro = [.ref x7, .ref CE, .type "ValueError", .type "Exception", .type "BaseException", .type "object"])
    (mr8 : cdv8.mro = [.ref x8, .ref CE, .type "ValueError", .type "Exception", .type "BaseException", .type "object"])
    (mr9 : cdv9.mro = [.ref x9, .ref CE, .type "ValueError", .type "Exception", .type "BaseException", .type "object"])
    (mr10 : cdv10.mro = [.ref x10, .ref CE, .type "ValueError", .type "Exception", .type "BaseException", .type "object"])
    (mr11 : cdv11.mro = [.ref x11, .ref CE, .type "ValueError", .type "Exception", .type "BaseException", .type "object"])
    (mr12 : cdv12.mro = [.ref x12, .ref CE, .type "ValueError", .type "Exception", .type "BaseException", .type "object"])
    (mr13 : cdv13.mro = [.ref x13, .ref CE, .type "ValueError", .type "Exception", .type "BaseException", .type "object"])
    (mr14 : cdv14.mro = [.ref x14, .ref CE, .type "ValueError", .type "Exception", .type "BaseException", .type "object"])
    (mr15 : cdv15.mro = [.ref x15, .ref CE, .type "ValueError", .type "Exception", .type "BaseException", .type "object"])
    (mr16 : cdv16.mro = [.ref x16, .ref CE, .type "ValueError", .type "Exception", .type "BaseException", .type "object"])
    (mr17 : cdv17.mro = [.ref x17, .ref CE, .type "ValueError", .type "Exception", .type "BaseException", .type "object"])
    (mr18 : cdv18.mro = [.ref x18, .ref CE, .type "ValueError", .type "Exception", .type "BaseException", .type "object"])
    (mr19 : cdv19.mro = [.ref x19, .ref CE, .type "ValueError", .type "Exception", .type "BaseException", .type "object"])
    (mr20 : cdv20.mro = [.ref CE, .type "ValueError", .type "Exception", .type "BaseException", .type "object"])
    (nd : [x0, x1, x2, x3, x4, x5, x6, x7, x8, x9, x10, x11, x12, x13, x14, x15, x16, x17, x18, x19, CE].Nodup)
    (z1 : PySem.W.nsIn K mainGlobals "len" = some none)
    (z2 : PySem.W.nsIn K mainGlobals "int" = some none)
    (z3 : PySem.W.nsIn K mainGlobals "abs" = some none)
    (z4 : PySem.W.nsIn K mainGlobals "range" = some none)
    (z5 : PySem.W.nsIn K mainGlobals "list" = some none)
    (z6 : PySem.W.nsIn K mainGlobals "any" = some none)
    (z7 : PySem.W.nsIn K mainGlobals "isinstance" = some none)
    (z8 : PySem.W.nsIn K mainGlobals "ValueError" = some none)
    : ∃ fd : FuncData, (∀ (s : Shared) (v : Value), BindsTo s fd ⟨[v], []⟩ [("_law_script", v)]) ∧ ∀ base : Heap, K.In base → base.Ns mainGlobals mg → FnOk l.prog w K mg base (L2.CX l.prog w) 5 fa fd ["_law_script"] (spLaw K) := by
  have e := hfa.symm.trans (PySem.W.mg_of X G a7)
  cases e
  have bn : NoMg mg BI := fun x hx => by
    simp only [BI, List.mem_cons, List.not_mem_nil, or_false] at hx
    rcases hx with rfl | rfl | rfl | rfl | rfl | rfl | rfl | rfl
    · exact PySem.W.mg_none_of X G z1
    · exact PySem.W.mg_none_of X G z2
    · exact PySem.W.mg_none_of X G z3
    · exact PySem.W.mg_none_of X G z4
    · exact PySem.W.mg_none_of X G z5
    · exact PySem.W.mg_none_of X G z6
    · exact PySem.W.mg_none_of X G z7
    · exact PySem.W.mg_none_of X G z8
  have F1 := fun_mk (st := s_l_bag) l1 c1 k1
  have b1 := F1.binds (ps := P_l_bag) fun _ _ _ _ _ _ us hl => match us, hl with | [_], _ => rfl
  have F2 := fun_mk (st := s_l_draw) l2 c2 k2
  have b2 := F2.binds (ps := P_l_draw) fun _ _ _ _ _ _ us hl => match us, hl with | [_, _], _ => rfl
  have F3 := fun_mk (st := s_l_mixed) l3 c3 k3
  have b3 := F3.binds (ps := P_l_mixed) fun _ _ _ _ _ _ us hl => match us, hl with | [_, _], _ => rfl
  have F4 := fun_mk (st := s_l_kinds) l4 c4 k4
  have b4 := F4.binds (ps := P_l_kinds) fun _ _ _ _ _ _ us hl => match us, hl with | [_], _ => rfl
  have F5 := fun_mk (st := s_l_errors) l5 c5 k5
  have b5 := F5.binds (ps := P_l_errors) fun _ _ _ _ _ _ us hl => match us, hl with | [_], _ => rfl
  have F6 := fun_mk (st := s_l_parts) l6 c6 k6
  have b6 := F6.binds (ps := P_l_parts) fun _ _ _ _ _ _ us hl => match us, hl with | [_], _ => rfl
  have F7 := fun_mk (st := s_law) l7 c7 k7
  have b7 := F7.binds (ps := P_law) fun _ _ _ _ _ _ us hl => match us, hl with | [_], _ => rfl
  have F8 := fun_mk (st := s_NoClass_init) l8 c8 k8
  have b8 := F8.binds (ps := P_NoClass_init) fun _ _ _ _ _ _ us hl => match us, hl with | [_, _], _ => rfl
  have F9 := fun_mk (st := s_BadClaims_init) l9 c9 k9
  have b9 := F9.binds (ps := P_BadClaims_init) fun _ _ _ _ _ _ us hl => match us, hl with | [_, _], _ => rfl
  have F10 := fun_mk (st := s_TooMany_init) l10 c10 k10
  have b10 := F10.binds (ps := P_TooMany_init) fun _ _ _ _ _ _ us hl => match us, hl with | [_, _], _ => rfl
  have F11 := fun_mk (st := s_BadYears_init) l11 c11 k11
  have b11 := F11.binds (ps := P_BadYears_init) fun _ _ _ _ _ _ us hl => match us, hl with | [_, _], _ => rfl
  have F12 := fun_mk (st := s_NoPlace_init) l12 c12 k12
  have b12 := F12.binds (ps := P_NoPlace_init) fun _ _ _ _ _ _ us hl => match us, hl with | [_, _], _ => rfl
  have F13 := fun_mk (st := s_Billed_init) l13 c13 k13
  have b13 := F13.binds (ps := P_Billed_init) fun _ _ _ _ _ _ us hl => match us, hl with | [_, _], _ => rfl
  have F14 := fun_mk (st := s_NotBilled_init) l14 c14 k14
  have b14 := F14.binds (ps := P_NotBilled_init) fun _ _ _ _ _ _ us hl => match us, hl with | [_, _], _ => rfl
  have F15 := fun_mk (st := s_BadName_init) l15 c15 k15
  have b15 := F15.binds (ps := P_BadName_init) fun _ _ _ _ _ _ us hl => match us, hl with | [_, _], _ => rfl
  have F16 := fun_mk (st := s_NameTaken_init) l16 c16 k16
  have b16 := F16.binds (ps := P_NameTaken_init) fun _ _ _ _ _ _ us hl => match us, hl with | [_, _], _ => rfl
  have F17 := fun_mk (st := s_NoPolicy_init) l17 c17 k17
  have b17 := F17.binds (ps := P_NoPolicy_init) fun _ _ _ _ _ _ us hl => match us, hl with | [_, _], _ => rfl
  have erQ0 : ErrAt K mg "BadPremiums" x0 := ⟨⟨_, _, _, _, PySem.F.excBase_ValueError, qQ0⟩, PySem.W.mg_of X G aQ0, kpQ0, sbQ0, tyQ0⟩
  have exQ0 : ExcC K x0 := ⟨hgQ0, hkQ0, sbQ0, ddQ0, haQ0, hn, ht, hmQ0⟩
  have erQ1 : ErrAt K mg "BadTable" x1 := ⟨⟨_, _, _, _, PySem.F.excBase_ValueError, qQ1⟩, PySem.W.mg_of X G aQ1, kpQ1, sbQ1, tyQ1⟩
  have exQ1 : ExcC K x1 := ⟨hgQ1, hkQ1, sbQ1, ddQ1, haQ1, hn, ht, hmQ1⟩
  have erQ2 : ErrAt K mg "BadSteps" x2 := ⟨⟨_, _, _, _, PySem.F.excBase_ValueError, qQ2⟩, PySem.W.mg_of X G aQ2, kpQ2, sbQ2, tyQ2⟩
  have exQ2 : ExcC K x2 := ⟨hgQ2, hkQ2, sbQ2, ddQ2, haQ2, hn, ht, hmQ2⟩
  have erQ3 : ErrAt K mg "BadOrder" x3 := ⟨⟨_, _, _, _, PySem.F.excBase_ValueError, qQ3⟩, PySem.W.mg_of X G aQ3, kpQ3, sbQ3, tyQ3⟩
  have exQ3 : ExcC K x3 := ⟨hgQ3, hkQ3, sbQ3, ddQ3, haQ3, hn, ht, hmQ3⟩
  have erQ4 : ErrAt K mg "BadRows" x4 := ⟨⟨_, _, _, _, PySem.F.excBase_ValueError, qQ4⟩, PySem.W.mg_of X G aQ4, kpQ4, sbQ4, tyQ4⟩
  have exQ4 : ExcC K x4 := ⟨hgQ4, hkQ4, sbQ4, ddQ4, haQ4, hn, ht, hmQ4⟩
  have erQ5 : ErrAt K mg "BadDamages" x5 := ⟨⟨_, _, _, _, PySem.F.excBase_ValueError, qQ5⟩, PySem.W.mg_of X G aQ5, kpQ5, sbQ5, tyQ5⟩
  have exQ5 : ExcC K x5 := ⟨hgQ5, hkQ5, sbQ5, ddQ5, haQ5, hn, ht, hmQ5⟩
  have erQ6 : ErrAt K mg "BadHouses" x6 := ⟨⟨_, _, _, _, PySem.F.excBase_ValueError, qQ6⟩, PySem.W.mg_of X G aQ6, kpQ6, sbQ6, tyQ6⟩
  have exQ6 : ExcC K x6 := ⟨hgQ6, hkQ6, sbQ6, ddQ6, haQ6, hn, ht, hmQ6⟩
  have erQ7 : ErrAt K mg "BadWays" x7 := ⟨⟨_, _, _, _, PySem.F.excBase_ValueError, qQ7⟩, PySem.W.mg_of X G aQ7, kpQ7, sbQ7, tyQ7⟩
  have exQ7 : ExcC K x7 := ⟨hgQ7, hkQ7, sbQ7, ddQ7, haQ7, hn, ht, hmQ7⟩
  have erQ8 : ErrAt K mg "BadPlan" x8 := ⟨⟨_, _, _, _, PySem.F.excBase_ValueError, qQ8⟩, PySem.W.mg_of X G aQ8, kpQ8, sbQ8, tyQ8⟩
  have exQ8 : ExcC K x8 := ⟨hgQ8, hkQ8, sbQ8, ddQ8, haQ8, hn, ht, hmQ8⟩
  have erQ9 : ErrAt K mg "NothingToUndo" x9 := ⟨⟨_, _, _, _, PySem.F.excBase_ValueError, qQ9⟩, PySem.W.mg_of X G aQ9, kpQ9, sbQ9, tyQ9⟩
  have exQ9 : ExcC K x9 := ⟨hgQ9, hkQ9, sbQ9, ddQ9, haQ9, hn, ht, hmQ9⟩
  have erQE : ErrAt K mg "ClaimError" CE := ⟨⟨_, _, _, _, PySem.F.excBase_ValueError, qQE⟩, PySem.W.mg_of X G aQE, kpQE, sbQE, tyQE⟩
  have exQE : ExcC K CE := ⟨hgQE, hkQE, sbQE, ddQE, haQE, hn, ht, hmQE⟩
  have exR10 : ExcC K x10 := ⟨hgR10, hkR10, sbR10, ddR10, haR10, hn, ht, hmR10⟩
  have xfR10 : XfC K x10 := ⟨hgR10, hkR10, sbR10, ddR10⟩
  have oxR10 : OexC K x10 := ⟨⟨_, _, _, _, _, _, _, _, _, _, _, _, _, _, _, oR10, rvR10⟩, stR10, sbR10, tyR10, kpR10⟩
  have exR11 : ExcC K x11 := ⟨hgR11, hkR11, sbR11, ddR11, haR11, hn, ht, hmR11⟩
  have xfR11 : XfC K x11 := ⟨hgR11, hkR11, sbR11, ddR11⟩
  have oxR11 : OexC K x11 := ⟨⟨_, _, _, _, _, _, _, _, _, _, _, _, _, _, _, oR11, rvR11⟩, stR11, sbR11, tyR11, kpR11⟩
  have exR12 : ExcC K x12 := ⟨hgR12, hkR12, sbR12, ddR12, haR12, hn, ht, hmR12⟩
  have xfR12 : XfC K x12 := ⟨hgR12, hkR12, sbR12, ddR12⟩
  have oxR12 : OexC K x12 := ⟨⟨_, _, _, _, _, _, _, _, _, _, _, _, _, _, _, oR12, rvR12⟩, stR12, sbR12, tyR12, kpR12⟩
  have exR13 : ExcC K x13 := ⟨hgR13, hkR13, sbR13, ddR13, haR13, hn, ht, hmR13⟩
  have xfR13 : XfC K x13 := ⟨hgR13, hkR13, sbR13, ddR13⟩
  have oxR13 : OexC K x13 := ⟨⟨_, _, _, _, _, _, _, _, _, _, _, _, _, _, _, oR13, rvR13⟩, stR13, sbR13, tyR13, kpR13⟩
  have exR14 : ExcC K x14 := ⟨hgR14, hkR14, sbR14, ddR14, haR14, hn, ht, hmR14⟩
  have xfR14 : XfC K x14 := ⟨hgR14, hkR14, sbR14, ddR14⟩
  have oxR14 : OexC K x14 := ⟨⟨_, _, _, _, _, _, _, _, _, _, _, _, _, _, _, oR14, rvR14⟩, stR14, sbR14, tyR14, kpR14⟩
  have exR15 : ExcC K x15 := ⟨hgR15, hkR15, sbR15, ddR15, haR15, hn, ht, hmR15⟩
  have xfR15 : XfC K x15 := ⟨hgR15, hkR15, sbR15, ddR15⟩
  have oxR15 : OexC K x15 := ⟨⟨_, _, _, _, _, _, _, _, _, _, _, _, _, _, _, oR15, rvR15⟩, stR15, sbR15, tyR15, kpR15⟩
  have exR16 : ExcC K x16 := ⟨hgR16, hkR16, sbR16, ddR16, haR16, hn, ht, hmR16⟩
  have xfR16 : XfC K x16 := ⟨hgR16, hkR16, sbR16, ddR16⟩
  have oxR16 : OexC K x16 := ⟨⟨_, _, _, _, _, _, _, _, _, _, _, _, _, _, _, oR16, rvR16⟩, stR16, sbR16, tyR16, kpR16⟩
  have exR17 : ExcC K x17 := ⟨hgR17, hkR17, sbR17, ddR17, haR17, hn, ht, hmR17⟩
  have xfR17 : XfC K x17 := ⟨hgR17, hkR17, sbR17, ddR17⟩
  have oxR17 : OexC K x17 := ⟨⟨_, _, _, _, _, _, _, _, _, _, _, _, _, _, _, oR17, rvR17⟩, stR17, sbR17, tyR17, kpR17⟩
  have exR18 : ExcC K x18 := ⟨hgR18, hkR18, sbR18, ddR18, haR18, hn, ht, hmR18⟩
  have xfR18 : XfC K x18 := ⟨hgR18, hkR18, sbR18, ddR18⟩
  have oxR18 : OexC K x18 := ⟨⟨_, _, _, _, _, _, _, _, _, _, _, _, _, _, _, oR18, rvR18⟩, stR18, sbR18, tyR18, kpR18⟩
  have exR19 : ExcC K x19 := ⟨hgR19, hkR19, sbR19, ddR19, haR19, hn, ht, hmR19⟩
  have xfR19 : XfC K x19 := ⟨hgR19, hkR19, sbR19, ddR19⟩
  have oxR19 : OexC K x19 := ⟨⟨_, _, _, _, _, _, _, _, _, _, _, _, _, _, _, oR19, rvR19⟩, stR19, sbR19, tyR19, kpR19⟩
  have boCE : BaseOk K CE := ⟨gaCE, tyCE, rdCE, inCE⟩
  have hC : Cls20 K [x0, x1, x2, x3, x4, x5, x6, x7, x8, x9, x10, x11, x12, x13, x14, x15, x16, x17, x18, x19] CE := cls20_of nd (by
      intro C hc
      simp only [List.mem_cons, List.not_mem_nil, or_false] at hc
      rcases hc with rfl | rfl | rfl | rfl | rfl | rfl | rfl | rfl | rfl | rfl | rfl | rfl | rfl | rfl | rfl | rfl | rfl | rfl | rfl | rfl
      · exact ⟨exQ0, mro_ok cl0 mr0 rfl, icQ0, tyQ0⟩
      · exact ⟨exQ1, mro_ok cl1 mr1 rfl, icQ1, tyQ1⟩
      · exact ⟨exQ2, mro_ok cl2 mr2 rfl, icQ2, tyQ2⟩
      · exact ⟨exQ3, mro_ok cl3 mr3 rfl, icQ3, tyQ3⟩
      · exact ⟨exQ4, mro_ok cl4 mr4 rfl, icQ4, tyQ4⟩
      · exact ⟨exQ5, mro_ok cl5 mr5 rfl, icQ5, tyQ5⟩
      · exact ⟨exQ6, mro_ok cl6 mr6 rfl, icQ6, tyQ6⟩
      · exact ⟨exQ7, mro_ok cl7 mr7 rfl, icQ7, tyQ7⟩
      · exact ⟨exQ8, mro_ok cl8 mr8 rfl, icQ8, tyQ8⟩
      · exact ⟨exQ9, mro_ok cl9 mr9 rfl, icQ9, tyQ9⟩
      · exact ⟨exR10, mro_ok cl10 mr10 rfl, icR10, tyR10⟩
      · exact ⟨exR11, mro_ok cl11 mr11 rfl, icR11, tyR11⟩
      · exact ⟨exR12, mro_ok cl12 mr12 rfl, icR12, tyR12⟩
      · exact ⟨exR13, mro_ok cl13 mr13 rfl, icR13, tyR13⟩
      · exact ⟨exR14, mro_ok cl14 mr14 rfl, icR14, tyR14⟩
      · exact ⟨exR15, mro_ok cl15 mr15 rfl, icR15, tyR15⟩
      · exact ⟨exR16, mro_ok cl16 mr16 rfl, icR16, tyR16⟩
      · exact ⟨exR17, mro_ok cl17 mr17 rfl, icR17, tyR17⟩
      · exact ⟨exR18, mro_ok cl18 mr18 rfl, icR18, tyR18⟩
      · exact ⟨exR19, mro_ok cl19 mr19 rfl, icR19, tyR19⟩) exQE (mro_ok cl20 mr20 rfl) icQE tyQE
  refine ⟨PySem.W.fnOf "law" "law" (defArgs s_law) (defBody s_law) (defScope s_law) .none kV7 dc7 pm7 an7 cd7 ct7, fun s v => .of_eq rfl, fun base _ _ => ?_⟩
  have A8 : ErrAt1 l.prog w K mg base "NoClass" x10 "at" := ⟨⟨_, _, _, ok_iNoClass F8 (PySem.W.mg_of X G aCE) boCE oxR10 noR10, b8, a8, i8⟩, oxR10, PySem.W.mg_of X G aR10⟩
  have A9 : ErrAt1 l.prog w K mg base "BadClaims" x11 "claims" := ⟨⟨_, _, _, ok_iBadClaims F9 (PySem.W.mg_of X G aCE) boCE oxR11 noR11, b9, a9, i9⟩, oxR11, PySem.W.mg_of X G aR11⟩
  have A10 : ErrAt1 l.prog w K mg base "TooMany" x12 "count" := ⟨⟨_, _, _, ok_iTooMany F10 (PySem.W.mg_of X G aCE) boCE oxR12 noR12, b10, a10, i10⟩, oxR12, PySem.W.mg_of X G aR12⟩
  have A11 : ErrAt1 l.prog w K mg base "BadYears" x13 "years" := ⟨⟨_, _, _, ok_iBadYears F11 (PySem.W.mg_of X G aCE) boCE oxR13 noR13, b11, a11, i11⟩, oxR13, PySem.W.mg_of X G aR13⟩
  have A12 : ErrAt1 l.prog w K mg base "NoPlace" x14 "place" := ⟨⟨_, _, _, ok_iNoPlace F12 (PySem.W.mg_of X G aCE) boCE oxR14 noR14, b12, a12, i12⟩, oxR14, PySem.W.mg_of X G aR14⟩
  have A13 : ErrAt1 l.prog w K mg base "Billed" x15 "year" := ⟨⟨_, _, _, ok_iBilled F13 (PySem.W.mg_of X G aCE) boCE oxR15 noR15, b13, a13, i13⟩, oxR15, PySem.W.mg_of X G aR15⟩
  have A14 : ErrAt1 l.prog w K mg base "NotBilled" x16 "year" := ⟨⟨_, _, _, ok_iNotBilled F14 (PySem.W.mg_of X G aCE) boCE oxR16 noR16, b14, a14, i14⟩, oxR16, PySem.W.mg_of X G aR16⟩
  have A15 : ErrAt1 l.prog w K mg base "BadName" x17 "name" := ⟨⟨_, _, _, ok_iBadName F15 (PySem.W.mg_of X G aCE) boCE oxR17 noR17, b15, a15, i15⟩, oxR17, PySem.W.mg_of X G aR17⟩
  have A16 : ErrAt1 l.prog w K mg base "NameTaken" x18 "name" := ⟨⟨_, _, _, ok_iNameTaken F16 (PySem.W.mg_of X G aCE) boCE oxR18 noR18, b16, a16, i16⟩, oxR18, PySem.W.mg_of X G aR18⟩
  have A17 : ErrAt1 l.prog w K mg base "NoPolicy" x19 "name" := ⟨⟨_, _, _, ok_iNoPolicy F17 (PySem.W.mg_of X G aCE) boCE oxR19 noR19, b17, a17, i17⟩, oxR19, PySem.W.mg_of X G aR19⟩
  have A1 : FnAt l.prog w K mg base _ _ _ _ := ⟨_, _, ok_bag0 F1 bn, PySem.W.mg_of X G a1, k1, b1⟩
  have A2 : FnAt l.prog w K mg base _ _ _ _ := ⟨_, _, ok_draw F2 bn, PySem.W.mg_of X G a2, k2, b2⟩
  have A3 : FnAt l.prog w K mg base _ _ _ _ := ⟨_, _, ok_mixed F3 bn A2, PySem.W.mg_of X G a3, k3, b3⟩
  have A4 : FnAt l.prog w K mg base _ _ _ _ := ⟨_, _, ok_kinds F4 bn (PySem.W.mg_of X G aQ0) (PySem.W.mg_of X G aQ1) (PySem.W.mg_of X G aQ2) (PySem.W.mg_of X G aQ3) (PySem.W.mg_of X G aQ4) (PySem.W.mg_of X G aQ5) (PySem.W.mg_of X G aQ6) (PySem.W.mg_of X G aQ7) (PySem.W.mg_of X G aQ8) (PySem.W.mg_of X G aQ9) (PySem.W.mg_of X G aR10) (PySem.W.mg_of X G aR11) (PySem.W.mg_of X G aR12) (PySem.W.mg_of X G aR13) (PySem.W.mg_of X G aR14) (PySem.W.mg_of X G aR15) (PySem.W.mg_of X G aR16) (PySem.W.mg_of X G aR17) (PySem.W.mg_of X G aR18) (PySem.W.mg_of X G aR19), PySem.W.mg_of X G a4, k4, b4⟩
  have A5 : FnAt l.prog w K mg base _ _ _ _ := ⟨_, _, ok_errors F5 bn erQ0 erQ1 erQ2 erQ3 erQ4 erQ5 erQ6 erQ7 erQ8 erQ9 A8 A9 A10 A11 A12 A13 A14 A15 A16 A17, PySem.W.mg_of X G a5, k5, b5⟩
  have A6 : FnAt l.prog w K mg base _ _ _ _ := ⟨_, _, ok_parts (c0 := x0) (c1 := x1) (c2 := x2) (c3 := x3) (c4 := x4) (c5 := x5) (c6 := x6) (c7 := x7) (c8 := x8) (c9 := x9) F6 bn xfR10 noR10 xfR11 noR11 xfR12 noR12 xfR13 noR13 xfR14 noR14 xfR15 noR15 xfR16 noR16 xfR17 noR17 xfR18 noR18 xfR19 noR19, PySem.W.mg_of X G a6, k6, b6⟩
  exact ok_law0 F7 bn A1 A2 A3 A4 A5 A6 erQE hC
theorem bits_small {z : Int} (h : Builtin.Int.intBits z ≤ 1048576) : z.natAbs < 2 ^ 1090000 := by
  by_cases h0 : z = 0
  · subst h0; exact Nat.pow_pos (by decide)
  · have e : Builtin.Int.intBits z = z.natAbs.log2 + 1 := by
      unfold Builtin.Int.intBits
      rw [if_neg (by simpa using h0)]
    rw [e] at h
    exact Nat.lt_of_lt_of_le Nat.lt_log2_self (Nat.pow_le_pow_right (by decide) (by omega))
theorem walk {l : PySem.W.OpenLaw} {q : Program} {loose : List Str} {XP : (Str → Option Value) → Heap → Prop} {YP : World → Heap → Prop} {d : DefRec} {K : Params → PySem.W.Frag} (hn : l.most = some 63) (hdf : d.params.defaults = [])
    (hY : ∀ (w : World) (h : Heap), YP w h → (K w.params).In h)
    (F : ∀ (w : World) (mg : Str → Option Value) (fa : Addr) (h : Heap), (K w.params).In h → h.Ns mainGlobals mg → mg d.name = some (.ref fa) →
      ∃ fd : FuncData, (∀ (s : Shared) (u : Value), BindsTo s fd ⟨[u], []⟩ [("_law_script", u)]) ∧ ∀ base : Heap, (K w.params).In base → base.Ns mainGlobals mg → FnOk l.prog w (K w.params) mg base (L2.CX l.prog w) 5 fa fd ["_law_script"] (spLaw (K w.params))) :
    PySem.W.WalkO q loose XP YP l.row.toRowW d [] (fun f vs => PySem.call f vs) :=
  L2.walk_ofB (n := 63) (k := 5) (x := "_law_script") (CX := fun w => L2.CX l.prog w) (sp := fun w => spLaw (K w.params)) hn (by decide) hdf ⟨rfl, by decide, by decide⟩ hY F (fun _ _ a ns _ hb _ hS => ⟨a, ns, rfl, hS, fun z hz => bits_small (hb z hz), fun _ => rfl⟩) fun _ _ _ _ _ ⟨_, _, _, _, _, _, _, _, _, _, _, _, z⟩ => z
end My
open PySem PySem.W PyProof.Rows
set_option maxRecDepth 100000 in
set_option maxHeartbeats 0 in
theorem PySem.Challenge.cw_claimclasses_k14_errors_with_their_parts_holds : PySem.Challenge.rw_claimclasses_k14_errors_with_their_parts.Holds := by
  w_on; o_law; k_head; (case hw => w_witness2)
  k_fill
  refine My.walk (l := PySem.Challenge.rw_claimclasses_k14_errors_with_their_parts) rfl rfl (fun w h Y => PySem.W.kIn_of Y) ?F
  case F =>
    intro w mg fa h KX G hmg
    refine' My.all_mk KX G hmg ?aQ0 ?aQ1 ?aQ2 ?aQ3 ?aQ4 ?aQ5 ?aQ6 ?aQ7 ?aQ8 ?aQ9 ?aQE ?aR10 ?aR11 ?aR12 ?aR13 ?aR14 ?aR15 ?aR16 ?aR17 ?aR18 ?aR19 ?aCE ?a1 ?l1 ?c1 ?k1 ?a2 ?l2 ?c2 ?k2 ?a3 ?l3 ?c3 ?k3 ?a4 ?l4 ?c4 ?k4 ?a5 ?l5 ?c5 ?k5 ?a6 ?l6 ?c6 ?k6 ?a7 ?l7 ?c7 ?k7 ?a8 ?i8 ?l8 ?c8 ?k8 ?oR10 ?rvR10 ?stR10 ?noR10 ?a9 ?i9 ?l9 ?c9 ?k9 ?oR11 ?rvR11 ?stR11 ?noR11 ?a10 ?i10 ?l10 ?c10 ?k10 ?oR12 ?rvR12 ?stR12 ?noR12 ?a11 ?i11 ?l11 ?c11 ?k11 ?oR13 ?rvR13 ?stR13 ?noR13 ?a12 ?i12 ?l12 ?c12 ?k12 ?oR14 ?rvR14 ?stR14 ?noR14 ?a13 ?i13 ?l13 ?c13 ?k13 ?oR15 ?rvR15 ?stR15 ?noR15 ?a14 ?i14 ?l14 ?c14 ?k14 ?oR16 ?rvR16 ?stR16 ?noR16 ?a15 ?i15 ?l15 ?c15 ?k15 ?oR17 ?rvR17 ?stR17 ?noR17 ?a16 ?i16 ?l16 ?c16 ?k16 ?oR18 ?rvR18 ?stR18 ?noR18 ?a17 ?i17 ?l17 ?c17 ?k17 ?oR19 ?rvR19 ?stR19 ?noR19 ?qQ0 ?kpQ0 ?sbQ0 ?tyQ0 ?hgQ0 ?hkQ0 ?ddQ0 ?haQ0 ?hmQ0 ?icQ0 ?qQ1 ?kpQ1 ?sbQ1 ?tyQ1 ?hgQ1 ?hkQ1 ?ddQ1 ?haQ1 ?hmQ1 ?icQ1 ?qQ2 ?kpQ2 ?sbQ2 ?tyQ2 ?hgQ2 ?hkQ2 ?ddQ2 ?haQ2 ?hmQ2 ?icQ2 ?qQ3 ?kpQ3 ?sbQ3 ?tyQ3 ?hgQ3 ?hkQ3 ?ddQ3 ?haQ3 ?hmQ3 ?icQ3 ?qQ4 ?kpQ4 ?sbQ4 ?tyQ4 ?hgQ4 ?hkQ4 ?ddQ4 ?haQ4 ?hmQ4 ?icQ4 ?qQ5 ?kpQ5 ?sbQ5 ?tyQ5 ?hgQ5 ?hkQ5 ?ddQ5 ?haQ5 ?hmQ5 ?icQ5 ?qQ6 ?kpQ6 ?sbQ6 ?tyQ6 ?hgQ6 ?hkQ6 ?ddQ6 ?haQ6 ?hmQ6 ?icQ6 ?qQ7 ?kpQ7 ?sbQ7 ?tyQ7 ?hgQ7 ?hkQ7 ?ddQ7 ?haQ7 ?hmQ7 ?icQ7 ?qQ8 ?kpQ8 ?sbQ8 ?tyQ8 ?hgQ8 ?hkQ8 ?ddQ8 ?haQ8 ?hmQ8 ?icQ8 ?qQ9 ?kpQ9 ?sbQ9 ?tyQ9 ?hgQ9 ?hkQ9 ?ddQ9 ?haQ9 ?hmQ9 ?icQ9 ?qQE ?kpQE ?sbQE ?tyQE ?hgQE ?hkQE ?ddQE ?haQE ?hmQE ?icQE ?kpR10 ?sbR10 ?tyR10 ?hgR10 ?hkR10 ?ddR10 ?haR10 ?hmR10 ?icR10 ?kpR11 ?sbR11 ?tyR11 ?hgR11 ?hkR11 ?ddR11 ?haR11 ?hmR11 ?icR11 ?kpR12 ?sbR12 ?tyR12 ?hgR12 ?hkR12 ?ddR12 ?haR12 ?hmR12 ?icR12 ?kpR13 ?sbR13 ?tyR13 ?hgR13 ?hkR13 ?ddR13 ?haR13 ?hmR13 ?icR13 ?kpR14 ?sbR14 ?tyR14 ?hgR14 ?hkR14 ?ddR14 ?haR14 ?hmR14 ?icR14 ?kpR15 ?sbR15 ?tyR15 ?hgR15 ?hkR15 ?ddR15 ?haR15 ?hmR15 ?icR15 ?kpR16 ?sbR16 ?tyR16 ?hgR16 ?hkR16 ?ddR16 ?haR16 ?hmR16 ?icR16 ?kpR17 ?sbR17 ?tyR17 ?hgR17 ?hkR17 ?ddR17 ?haR17 ?hmR17 ?icR17 ?kpR18 ?sbR18 ?tyR18 ?hgR18 ?hkR18 ?ddR18 ?haR18 ?hmR18 ?icR18 ?kpR19 ?sbR19 ?tyR19 ?hgR19 ?hkR19 ?ddR19 ?haR19 ?hmR19 ?icR19 ?hn ?ht ?icCE ?tyCE ?gaCE ?rdCE ?inCE ?cl0 ?cl1 ?cl2 ?cl3 ?cl4 ?cl5 ?cl6 ?cl7 ?cl8 ?cl9 ?cl10 ?cl11 ?cl12 ?cl13 ?cl14 ?cl15 ?cl16 ?cl17 ?cl18 ?cl19 ?cl20 ?mr0 ?mr1 ?mr2 ?mr3 ?mr4 ?mr5 ?mr6 ?mr7 ?mr8 ?mr9 ?mr10 ?mr11 ?mr12 ?mr13 ?mr14 ?mr15 ?mr16 ?mr17 ?mr18 ?mr19 ?mr20 ?nd ?z1 ?z2 ?z3 ?z4 ?z5 ?z6 ?z7 ?z8
    (case aQ0 => k_is)
    (case aQ1 => k_is)
    (case aQ2 => k_is)
    (case aQ3 => k_is)
    (case aQ4 => k_is)
    (case aQ5 => k_is)
    (case aQ6 => k_is)
    (case aQ7 => k_is)
    (case aQ8 => k_is)
    (case aQ9 => k_is)
    (case aQE => k_is)
    (case aR10 => k_is)
    (case aR11 => k_is)
    (case aR12 => k_is)
    (case aR13 => k_is)
    (case aR14 => k_is)
    (case aR15 => k_is)
    (case aR16 => k_is)
    (case aR17 => k_is)
    (case aR18 => k_is)
    (case aR19 => k_is)
    (case aCE => k_is)
    (case a1 => k_is)
    (case l1 => k_is)
    (case c1 => k_is)
    (case k1 => k_is)
    (case a2 => k_is)
    (case l2 => k_is)
    (case c2 => k_is)
    (case k2 => k_is)
    (case a3 => k_is)
    (case l3 => k_is)
    (case c3 => k_is)
    (case k3 => k_is)
    (case a4 => k_is)
    (case l4 => k_is)
    (case c4 => k_is)
    (case k4 => k_is)
    (case a5 => k_is)
    (case l5 => k_is)
    (case c5 => k_is)
    (case k5 => k_is)
    (case a6 => k_is)
    (case l6 => k_is)
    (case c6 => k_is)
    (case k6 => k_is)
    (case a7 => k_is)
    (case l7 => k_is)
    (case c7 => k_is)
    (case k7 => k_is)
    (case a8 => k_is)
    (case i8 => k_is)
    (case l8 => k_is)
    (case c8 => k_is)
    (case k8 => k_is)
    (case oR10 => k_is)
    (case rvR10 => decide +kernel)
    (case stR10 => k_is)
    (case noR10 => k_is)
    (case a9 => k_is)
    (case i9 => k_is)
    (case l9 => k_is)
    (case c9 => k_is)
    (case k9 => k_is)
    (case oR11 => k_is)
    (case rvR11 => decide +kernel)
    (case stR11 => k_is)
    (case noR11 => k_is)
    (case a10 => k_is)
    (case i10 => k_is)
    (case l10 => k_is)
    (case c10 => k_is)
    (case k10 => k_is)
    (case oR12 => k_is)
    (case rvR12 => decide +kernel)
    (case stR12 => k_is)
    (case noR12 => k_is)
    (case a11 => k_is)
    (case i11 => k_is)
    (case l11 => k_is)
    (case c11 => k_is)
    (case k11 => k_is)
    (case oR13 => k_is)
    (case rvR13 => decide +kernel)
    (case stR13 => k_is)
    (case noR13 => k_is)
    (case a12 => k_is)
    (case i12 => k_is)
    (case l12 => k_is)
    (case c12 => k_is)
    (case k12 => k_is)
    (case oR14 => k_is)
    (case rvR14 => decide +kernel)
    (case stR14 => k_is)
    (case noR14 => k_is)
    (case a13 => k_is)
    (case i13 => k_is)
    (case l13 => k_is)
    (case c13 => k_is)
    (case k13 => k_is)
    (case oR15 => k_is)
    (case rvR15 => decide +kernel)
    (case stR15 => k_is)
    (case noR15 => k_is)
    (case a14 => k_is)
    (case i14 => k_is)
    (case l14 => k_is)
    (case c14 => k_is)
    (case k14 => k_is)
    (case oR16 => k_is)
    (case rvR16 => decide +kernel)
    (case stR16 => k_is)
    (case noR16 => k_is)
    (case a15 => k_is)
    (case i15 => k_is)
    (case l15 => k_is)
    (case c15 => k_is)
    (case k15 => k_is)
    (case oR17 => k_is)
    (case rvR17 => decide +kernel)
    (case stR17 => k_is)
    (case noR17 => k_is)
    (case a16 => k_is)
    (case i16 => k_is)
    (case l16 => k_is)
    (case c16 => k_is)
    (case k16 => k_is)
    (case oR18 => k_is)
    (case rvR18 => decide +kernel)
    (case stR18 => k_is)
    (case noR18 => k_is)
    (case a17 => k_is)
    (case i17 => k_is)
    (case l17 => k_is)
    (case c17 => k_is)
    (case k17 => k_is)
    (case oR19 => k_is)
    (case rvR19 => decide +kernel)
    (case stR19 => k_is)
    (case noR19 => k_is)
    (case qQ0 => k_exc)
    (case kpQ0 => k_is)
    (case sbQ0 => k_is)
    (case tyQ0 => k_is)
    (case hgQ0 => k_is)
    (case hkQ0 => k_is)
    (case ddQ0 => k_is)
    (case haQ0 => k_is)
    (case hmQ0 => k_is)
    (case icQ0 => k_is)
    (case qQ1 => k_exc)
    (case kpQ1 => k_is)
    (case sbQ1 => k_is)
    (case tyQ1 => k_is)
    (case hgQ1 => k_is)
    (case hkQ1 => k_is)
    (case ddQ1 => k_is)
    (case haQ1 => k_is)
    (case hmQ1 => k_is)
    (case icQ1 => k_is)
    (case qQ2 => k_exc)
    (case kpQ2 => k_is)
    (case sbQ2 => k_is)
    (case tyQ2 => k_is)
    (case hgQ2 => k_is)
    (case hkQ2 => k_is)
    (case ddQ2 => k_is)
    (case haQ2 => k_is)
    (case hmQ2 => k_is)
    (case icQ2 => k_is)
    (case qQ3 => k_exc)
    (case kpQ3 => k_is)
    (case sbQ3 => k_is)
    (case tyQ3 => k_is)
    (case hgQ3 => k_is)
    (case hkQ3 => k_is)
    (case ddQ3 => k_is)
    (case haQ3 => k_is)
    (case hmQ3 => k_is)
    (case icQ3 => k_is)
    (case qQ4 => k_exc)
    (case kpQ4 => k_is)
    (case sbQ4 => k_is)
    (case tyQ4 => k_is)
    (case hgQ4 => k_is)
    (case hkQ4 => k_is)
    (case ddQ4 => k_is)
    (case haQ4 => k_is)
    (case hmQ4 => k_is)
    (case icQ4 => k_is)
    (case qQ5 => k_exc)
    (case kpQ5 => k_is)
    (case sbQ5 => k_is)
    (case tyQ5 => k_is)
    (case hgQ5 => k_is)
    (case hkQ5 => k_is)
    (case ddQ5 => k_is)
    (case haQ5 => k_is)
    (case hmQ5 => k_is)
    (case icQ5 => k_is)
    (case qQ6 => k_exc)
    (case kpQ6 => k_is)
    (case sbQ6 => k_is)
    (case tyQ6 => k_is)
    (case hgQ6 => k_is)
    (case hkQ6 => k_is)
    (case ddQ6 => k_is)
    (case haQ6 => k_is)
    (case hmQ6 => k_is)
    (case icQ6 => k_is)
    (case qQ7 => k_exc)
    (case kpQ7 => k_is)
    (case sbQ7 => k_is)
    (case tyQ7 => k_is)
    (case hgQ7 => k_is)
    (case hkQ7 => k_is)
    (case ddQ7 => k_is)
    (case haQ7 => k_is)
    (case hmQ7 => k_is)
    (case icQ7 => k_is)
    (case qQ8 => k_exc)
    (case kpQ8 => k_is)
    (case sbQ8 => k_is)
    (case tyQ8 => k_is)
    (case hgQ8 => k_is)
    (case hkQ8 => k_is)
    (case ddQ8 => k_is)
    (case haQ8 => k_is)
    (case hmQ8 => k_is)
    (case icQ8 => k_is)
    (case qQ9 => k_exc)
    (case kpQ9 => k_is)
    (case sbQ9 => k_is)
    (case tyQ9 => k_is)
    (case hgQ9 => k_is)
    (case hkQ9 => k_is)
    (case ddQ9 => k_is)
    (case haQ9 => k_is)
    (case hmQ9 => k_is)
    (case icQ9 => k_is)
    (case qQE => k_exc)
    (case kpQE => k_is)
    (case sbQE => k_is)
    (case tyQE => k_is)
    (case hgQE => k_is)
    (case hkQE => k_is)
    (case ddQE => k_is)
    (case haQE => k_is)
    (case hmQE => k_is)
    (case icQE => k_is)
    (case kpR10 => k_is)
    (case sbR10 => k_is)
    (case tyR10 => k_is)
    (case hgR10 => k_is)
    (case hkR10 => k_is)
    (case ddR10 => k_is)
    (case haR10 => k_is)
    (case hmR10 => k_is)
    (case icR10 => k_is)
    (case kpR11 => k_is)
    (case sbR11 => k_is)
    (case tyR11 => k_is)
    (case hgR11 => k_is)
    (case hkR11 => k_is)
    (case ddR11 => k_is)
    (case haR11 => k_is)
    (case hmR11 => k_is)
    (case icR11 => k_is)
    (case kpR12 => k_is)
    (case sbR12 => k_is)
    (case tyR12 => k_is)
    (case hgR12 => k_is)
    (case hkR12 => k_is)
    (case ddR12 => k_is)
    (case haR12 => k_is)
    (case hmR12 => k_is)
    (case icR12 => k_is)
    (case kpR13 => k_is)
    (case sbR13 => k_is)
    (case tyR13 => k_is)
    (case hgR13 => k_is)
    (case hkR13 => k_is)
    (case ddR13 => k_is)
    (case haR13 => k_is)
    (case hmR13 => k_is)
    (case icR13 => k_is)
    (case kpR14 => k_is)
    (case sbR14 => k_is)
    (case tyR14 => k_is)
    (case hgR14 => k_is)
    (case hkR14 => k_is)
    (case ddR14 => k_is)
    (case haR14 => k_is)
    (case hmR14 => k_is)
    (case icR14 => k_is)
    (case kpR15 => k_is)
    (case sbR15 => k_is)
    (case tyR15 => k_is)
    (case hgR15 => k_is)
    (case hkR15 => k_is)
    (case ddR15 => k_is)
    (case haR15 => k_is)
    (case hmR15 => k_is)
    (case icR15 => k_is)
    (case kpR16 => k_is)
    (case sbR16 => k_is)
    (case tyR16 => k_is)
    (case hgR16 => k_is)
    (case hkR16 => k_is)
    (case ddR16 => k_is)
    (case haR16 => k_is)
    (case hmR16 => k_is)
    (case icR16 => k_is)
    (case kpR17 => k_is)
    (case sbR17 => k_is)
    (case tyR17 => k_is)
    (case hgR17 => k_is)
    (case hkR17 => k_is)
    (case ddR17 => k_is)
    (case haR17 => k_is)
    (case hmR17 => k_is)
    (case icR17 => k_is)
    (case kpR18 => k_is)
    (case sbR18 => k_is)
    (case tyR18 => k_is)
    (case hgR18 => k_is)
    (case hkR18 => k_is)
    (case ddR18 => k_is)
    (case haR18 => k_is)
    (case hmR18 => k_is)
    (case icR18 => k_is)
    (case kpR19 => k_is)
    (case sbR19 => k_is)
    (case tyR19 => k_is)
    (case hgR19 => k_is)
    (case hkR19 => k_is)
    (case ddR19 => k_is)
    (case haR19 => k_is)
    (case hmR19 => k_is)
    (case icR19 => k_is)
    (case hn => k_is)
    (case ht => k_is)
    (case icCE => k_is)
    (case tyCE => k_is)
    (case gaCE => k_is)
    (case rdCE => k_is)
    (case inCE => k_is)
    (case cl0 => k_is)
    (case cl1 => k_is)
    (case cl2 => k_is)
    (case cl3 => k_is)
    (case cl4 => k_is)
    (case cl5 => k_is)
    (case cl6 => k_is)
    (case cl7 => k_is)
    (case cl8 => k_is)
    (case cl9 => k_is)
    (case cl10 => k_is)
    (case cl11 => k_is)
    (case cl12 => k_is)
    (case cl13 => k_is)
    (case cl14 => k_is)
    (case cl15 => k_is)
    (case cl16 => k_is)
    (case cl17 => k_is)
    (case cl18 => k_is)
    (case cl19 => k_is)
    (case cl20 => k_is)
    (case mr0 => rfl)
    (case mr1 => rfl)
    (case mr2 => rfl)
    (case mr3 => rfl)
    (case mr4 => rfl)
    (case mr5 => rfl)
    (case mr6 => rfl)
    (case mr7 => rfl)
    (case mr8 => rfl)
    (case mr9 => rfl)
    (case mr10 => rfl)
    (case mr11 => rfl)
    (case mr12 => rfl)
    (case mr13 => rfl)
    (case mr14 => rfl)
    (case mr15 => rfl)
    (case mr16 => rfl)
    (case mr17 => rfl)
    (case mr18 => rfl)
    (case mr19 => rfl)
    (case mr20 => rfl)
    (case nd => decide)
    (case z1 => k_is)
    (case z2 => k_is)
    (case z3 => k_is)
    (case z4 => k_is)
    (case z5 => k_is)
    (case z6 => k_is)
    (case z7 => k_is)
    (case z8 => k_is)
