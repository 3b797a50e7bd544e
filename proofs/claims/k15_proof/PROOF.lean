import PyProof.Rows.All
import Wide.All
import OpenK.AllK
import Wide.FinOn
import HandS.ForMost
import HandS.Wide
import HandS.Star
import HandS.Property
import HandS.IsInst
import HandS.SortInts
import HandS.Flow
import HandS.ForExc
import HandS.ExcInit
import HandS.ExcValue
import HandS.TryMany
import HandS.ExcIs
import HandS.ExcField
import KE.KExcIs
import HandS.Conv
import HandS.Walk
import HandS.More
import HandS.Deep
import PySem.Challenge.RW_claimclasses_k15_classes_that_are_reache
import HandS.EndBits
set_option Elab.async false
set_option linter.all false
set_option maxRecDepth 100000
set_option autoImplicit false
/-! DL: programs by their data. A value is a tree; what a def made and nobody changes any more is the grown part F of the heap H. -/
namespace DL
open PySem L2

/-! ### data -/
inductive D where
  | non | bl (b : Bool) | int (i : Int) | str (x : Str) | ty (n : String) | ref (a : Addr)
  | lst (xs : List D) | tup (xs : List D) | ins (C : Addr) (fs : List (Str × D))
  /-- an exception at a, of the class at C, its dict at d -/
  | exc (a C d : Addr) (fs : List (Str × D))
  /-- a list whose address is known -/
  | nam (p : Addr) (xs : List D)
  /-- an error that is held: one without parts, one with one part -/
  | er0 (C : Addr) | er1 (C : Addr) (f : Str) (d : D)
  /-- a dict with int and text keys -/
  | dic (ks : List Key) (xs : List D)
  /-- objects that are this frame's own: a list, a dict, at p; a tuple with such in it -/
  | own (p : Addr) (xs : List D) | owd (p : Addr) (ks : List Key) (xs : List D) | owt (xs : List D)

mutual
/-- v stands for d, all of it in F -/
inductive Is (K : PySem.W.Frag) (F : Hp) : V → D → Prop
  | non : Is K F .non .non
  | bl (b : Bool) : Is K F (.bl b) (.bl b)
  | int (i : Int) : Is K F (.int i) (.int i)
  | str (x : Str) : Is K F (.str x) (.str x)
  | ty (n : String) : Is K F (.ty n) (.ty n)
  | ref (a : Addr) : Is K F (.ref a) (.ref a)
  | lst {p : Addr} {xs : List V} {ds : List D} : F p = some (.lst xs) → IsAll K F xs ds → Is K F (.ref p) (.lst ds)
  | tup {p : Addr} {xs : List V} {ds : List D} : F p = some (.tup xs) → IsAll K F xs ds → Is K F (.ref p) (.tup ds)
  | ins {a dx C : Addr} {gs : List (Str × V)} {fs : List (Str × D)} : F a = some (.ins C dx gs) → gs.map (·.1) = fs.map (·.1) → IsAll K F (gs.map (·.2)) (fs.map (·.2)) → Is K F (.ref a) (.ins C fs)
  | exc {a dx C : Addr} {gs : List (Str × V)} {fs : List (Str × D)} : F dx = some (.xd gs) → gs.map (·.1) = fs.map (·.1) → IsAll K F (gs.map (·.2)) (fs.map (·.2)) → Is K F (.ref a) (.exc a C dx fs)
  | nam {p : Addr} {xs : List V} {ds : List D} : F p = some (.lst xs) → IsAll K F xs ds → Is K F (.ref p) (.nam p ds)
  | er0 {a C : Addr} : F a = some (ExO (.ref C) a) → Is K F (.ref a) (.er0 C)
  | er1 {a dx C : Addr} {f : Str} {v : V} {d : D} : F a = some (exo a C (some dx)) → F dx = some (exd dx [(f, v)]) → Is K F v d → Is K F (.ref a) (.er1 C f d)
  | dic {p : Addr} {kvs : List (Key × V)} {ks : List Key} {ds : List D} : F p = some (.dK kvs) → kvs.map (·.1) = ks → IsAll K F (kvs.map (·.2)) ds → Is K F (.ref p) (.dic ks ds)
inductive IsAll (K : PySem.W.Frag) (F : Hp) : List V → List D → Prop
  | nil : IsAll K F [] []
  | cons {v : V} {vs : List V} {d : D} {ds : List D} : Is K F v d → IsAll K F vs ds → IsAll K F (v :: vs) (d :: ds)
end

section
variable {K : PySem.W.Frag} {F F' F2 H H' H2 : Hp} {v : V} {d : D} {vs ws : List V} {ds es : List D}
theorem same_sqT {a : Addr} {xs : List V} (e : Same F F') (h : SqT K F a xs) : SqT K F' a xs := by
  rcases h with (h | ⟨o, h⟩) | h
  · exact .inl (.inl (e _ _ h))
  · exact .inl (.inr ⟨o, e _ _ h⟩)
  · exact .inr h
mutual
theorem Is.mono (s : Same F F') : ∀ {v : V} {d : D}, Is K F v d → Is K F' v d
  | _, _, .non => .non
  | _, _, .bl b => .bl b
  | _, _, .int i => .int i
  | _, _, .str x => .str x
  | _, _, .ty n => .ty n
  | _, _, .ref a => .ref a
  | _, _, .lst h a => .lst (s _ _ h) (IsAll.mono s a)
  | _, _, .tup h a => .tup (s _ _ h) (IsAll.mono s a)
  | _, _, .ins h e a => .ins (s _ _ h) e (IsAll.mono s a)
  | _, _, .nam h a => .nam (s _ _ h) (IsAll.mono s a)
  | _, _, .exc h e a => .exc (s _ _ h) e (IsAll.mono s a)
  | _, _, .er0 h => .er0 (s _ _ h)
  | _, _, .er1 h e a => .er1 (s _ _ h) (s _ _ e) (Is.mono s a)
  | _, _, .dic h e a => .dic (s _ _ h) e (IsAll.mono s a)
theorem IsAll.mono (s : Same F F') : ∀ {vs : List V} {ds : List D}, IsAll K F vs ds → IsAll K F' vs ds
  | _, _, .nil => .nil
  | _, _, .cons h t => .cons (Is.mono s h) (IsAll.mono s t)
end
theorem IsAll.length : ∀ {vs : List V} {ds : List D}, IsAll K F vs ds → vs.length = ds.length
  | _, _, .nil => rfl
  | _, _, .cons _ t => congrArg (· + 1) t.length
theorem IsAll.get : ∀ {vs : List V} {ds : List D} {i : Nat} {d : D}, IsAll K F vs ds → ds[i]? = some d → ∃ v, vs[i]? = some v ∧ Is K F v d
  | _, _, _, _, .nil, e => by simp at e
  | _, _, 0, _, .cons h _, e => by simp at e; subst e; exact ⟨_, rfl, h⟩
  | _, _, i + 1, _, .cons _ t, e => by
    obtain ⟨v, h1, h2⟩ := IsAll.get (i := i) t (by simpa using e)
    exact ⟨v, by simpa using h1, h2⟩
theorem IsAll.getV : ∀ {vs : List V} {ds : List D} {i : Nat} {v : V}, IsAll K F vs ds → vs[i]? = some v → ∃ d, ds[i]? = some d ∧ Is K F v d
  | _, _, _, _, .nil, e => by simp at e
  | _, _, 0, _, .cons h _, e => by simp at e; subst e; exact ⟨_, rfl, h⟩
  | _, _, i + 1, _, .cons _ t, e => by
    obtain ⟨d, h1, h2⟩ := IsAll.getV (i := i) t (by simpa using e)
    exact ⟨d, by simpa using h1, h2⟩
theorem IsAll.append : ∀ {vs : List V} {ds : List D}, IsAll K F vs ds → IsAll K F ws es → IsAll K F (vs ++ ws) (ds ++ es)
  | _, _, .nil, b => b
  | _, _, .cons h t, b => .cons h (t.append b)
theorem IsAll.take : ∀ {vs : List V} {ds : List D} (n : Nat), IsAll K F vs ds → IsAll K F (vs.take n) (ds.take n)
  | _, _, 0, _ => .nil
  | _, _, _ + 1, .nil => .nil
  | _, _, n + 1, .cons h t => .cons h (t.take n)
theorem IsAll.drop : ∀ {vs : List V} {ds : List D} (n : Nat), IsAll K F vs ds → IsAll K F (vs.drop n) (ds.drop n)
  | _, _, 0, r => r
  | _, _, _ + 1, .nil => .nil
  | _, _, n + 1, .cons _ t => t.drop n
theorem IsAll.set (h : Is K F v d) : ∀ {vs : List V} {ds : List D} (i : Nat), IsAll K F vs ds → IsAll K F (vs.set i v) (ds.set i d)
  | _, _, _, .nil => .nil
  | _, _, 0, .cons _ t => .cons h t
  | _, _, i + 1, .cons q t => .cons q (t.set h i)
theorem IsAll.eraseIdx : ∀ {vs : List V} {ds : List D} (i : Nat), IsAll K F vs ds → IsAll K F (vs.eraseIdx i) (ds.eraseIdx i)
  | _, _, _, .nil => .nil
  | _, _, 0, .cons _ t => t
  | _, _, i + 1, .cons q t => .cons q (t.eraseIdx i)
theorem isAll_ints : ∀ (ns : List Int), IsAll K F (ns.map V.int) (ns.map D.int)
  | [] => .nil
  | n :: ns => .cons (.int n) (isAll_ints ns)
theorem IsAll.ints : ∀ {vs : List V} {ns : List Int}, IsAll K F vs (ns.map D.int) → vs = ns.map V.int
  | _, [], .nil => rfl
  | _, n :: ns, .cons h t => by cases h; rw [List.map_cons, t.ints]
theorem IsAll.bls : ∀ {vs : List V} {bs : List Bool}, IsAll K F vs (bs.map D.bl) → vs = bs.map V.bl
  | _, [], .nil => rfl
  | _, n :: ns, .cons h t => by cases h; rw [List.map_cons, t.bls]

/-- data without an object: its value by itself -/
def flat : D → Option V
  | .non => some .non | .bl b => some (.bl b) | .int i => some (.int i) | .str x => some (.str x) | .ty n => some (.ty n) | .ref a => some (.ref a) | _ => none
theorem Is.flat (h : Is K F v d) {w : V} (e : DL.flat d = some w) : v = w := by
  cases h <;> first | cases e | skip
  all_goals rfl
theorem is_flat {w : V} (e : DL.flat d = some w) : Is K F w d := by
  cases d <;> first | cases e | skip
  · exact .non
  · exact .bl _
  · exact .int _
  · exact .str _
  · exact .ty _
  · exact .ref _

/-! ### how a heap grows. m: the bag and the list that it draws from, where there is one -/
structure Mem where
  b : Addr
  l : Addr
  ns : List Int
instance : CoeOut Mem Addr := ⟨Mem.b⟩
inductive Touch : Option Mem → Addr → Prop
  | b (c : Mem) : Touch (some c) c.b
  | l (c : Mem) : Touch (some c) c.l
/-- the bag of draws stands at c.b -/
def BagOk (K : PySem.W.Frag) (H : Hp) (c : Mem) : Prop := ∃ (i : Nat) (q g n : Int), c.b ≠ c.l ∧ H c.b = some (.lst [.ref c.l, .int (i : Int), .int q, .int g, .int n]) ∧ H c.l = some (.lst (c.ns.map V.int)) ∧ 0 ≤ q ∧ q.natAbs < 2 ^ 1100000 ∧ ∀ z ∈ c.ns, z.natAbs < 2 ^ 1090000
structure Good (K : PySem.W.Frag) (m : Option Mem) (F H : Hp) : Prop where
  sub : Same F H
  bag : ∀ c, m = some c → (F c.b = none ∧ F c.l = none) ∧ BagOk K H c
structure Step (K : PySem.W.Frag) (m : Option Mem) (F H F' H' : Hp) : Prop where
  fs : Same F F'
  good : Good K m F' H'
  new : ∀ a, F a = none → F' a ≠ none → H a = none
  keep : ∀ a o, ¬ Touch m a → H a = some o → H' a = some o
theorem BagOk.some {c : Mem} (h : BagOk K H c) : (∃ o, H c.b = Option.some o) ∧ ∃ o, H c.l = Option.some o := by
  obtain ⟨_, _, _, _, _, e, e2, _⟩ := h
  exact ⟨⟨_, e⟩, _, e2⟩
theorem BagOk.mono {c : Mem} (h : BagOk K H c) (e : H' c.b = H c.b) (e2 : H' c.l = H c.l) : BagOk K H' c := by
  obtain ⟨i, q, g, n, h0, h1, h2, h3⟩ := h
  exact ⟨i, q, g, n, h0, e.trans h1, e2.trans h2, h3⟩
variable {m : Option Mem}
theorem BagOk.list {c : Mem} (h : BagOk K H c) : H c.l = Option.some (.lst (c.ns.map V.int)) := by
  obtain ⟨i, q, g, n, h0, h1, h2, h3⟩ := h
  exact h2
theorem Good.touch (g : Good K m F H) {p : Addr} (z : Touch m p) : ∃ o, H p = some o := by
  cases z with
  | b c => exact (g.bag c rfl).2.some.1
  | l c => exact (g.bag c rfl).2.some.2
theorem Good.touchL (g : Good K m F H) {p : Addr} (z : Touch m p) : ∃ xs, H p = some (.lst xs) := by
  cases z with
  | b c => obtain ⟨_, _, _, _, _, _, e, _⟩ := g.bag c rfl; exact ⟨_, e⟩
  | l c => exact ⟨_, (g.bag c rfl).2.list⟩
theorem Good.notm (g : Good K m F H) {p : Addr} (hp : H p = none) : ¬ Touch m p := fun z => by
  obtain ⟨u, hu⟩ := g.touch z
  rw [hu] at hp; cases hp
theorem Step.refl (g : Good K m F H) : Step K m F H F H := ⟨Same.refl F, g, fun a h1 h2 => absurd h1 h2, fun _ _ _ h => h⟩
theorem Step.trans (a : Step K m F H F' H') (b : Step K m F' H' F2 H2) : Step K m F H F2 H2 := by
  refine ⟨a.fs.trans b.fs, b.good, fun x h1 h2 => ?_, fun x o hx h => b.keep x o hx (a.keep x o hx h)⟩
  cases e : F' x with
  | some o => exact a.new x h1 (by rw [e]; exact fun z => nomatch z)
  | none =>
    have e2 := b.new x e h2
    cases e3 : H x with
    | none => rfl
    | some o =>
      by_cases hm : Touch m x
      · obtain ⟨u, hu⟩ := a.good.touch hm
        rw [hu] at e2; cases e2
      · rw [a.keep x o hm e3] at e2; cases e2
/-- a new object that stays as it is -/
theorem Good.grow (g : Good K m F H) {p : Addr} {o : HO} (hp : H p = none) : Step K m F H (upd F p o) (upd H p o) := by
  have hF : F p = none := by
    cases e : F p with
    | none => rfl
    | some u => rw [g.sub p u e] at hp; cases hp
  refine ⟨fun a u e => ?_, ⟨fun a u e => ?_, fun c hc => ?_⟩, fun a h1 h2 => ?_, fun a u hm e => ?_⟩
  · rw [upd_ne (ne_of_none e hF)]; exact e
  · by_cases ha : a = p
    · subst ha; rw [upd_same] at e ⊢; exact e
    · rw [upd_ne ha] at e ⊢; exact g.sub a u e
  · obtain ⟨h1, h2⟩ := g.bag c hc
    obtain ⟨⟨u, hu⟩, u2, hu2⟩ := h2.some
    have hbp : c.b ≠ p := ne_of_none hu hp
    exact ⟨⟨by rw [upd_ne hbp]; exact h1.1, by rw [upd_ne (ne_of_none hu2 hp)]; exact h1.2⟩, h2.mono (upd_ne hbp) (upd_ne (ne_of_none hu2 hp))⟩
  · by_cases ha : a = p
    · subst ha; exact hp
    · rw [upd_ne ha] at h2; exact absurd h1 h2
  · rw [upd_ne (ne_of_none e hp)]; exact e
/-- a new object that is not in F yet -/
theorem Good.fresh (g : Good K m F H) {p : Addr} {o : HO} (hp : H p = none) : Step K m F H F (upd H p o) := by
  refine ⟨Same.refl F, ⟨fun a u e => ?_, fun c hc => ?_⟩, fun a h1 h2 => absurd h1 h2, fun a u hm e => ?_⟩
  · have := g.sub a u e
    rw [upd_ne (ne_of_none this hp)]; exact this
  · obtain ⟨h1, h2⟩ := g.bag c hc
    obtain ⟨⟨u, hu⟩, u2, hu2⟩ := h2.some
    exact ⟨h1, h2.mono (upd_ne (ne_of_none hu hp)) (upd_ne (ne_of_none hu2 hp))⟩
  · rw [upd_ne (ne_of_none e hp)]; exact e
/-- an object that is not in F changes -/
theorem Good.mut (g : Good K m F H) {p : Addr} {o : HO} (hp : F p = none) (hm : ¬ Touch m p) : Good K m F (upd H p o) := by
  refine ⟨fun a u e => ?_, fun c hc => ?_⟩
  · rw [upd_ne (ne_of_none e hp)]; exact g.sub a u e
  · obtain ⟨h1, h2⟩ := g.bag c hc
    subst hc
    exact ⟨h1, h2.mono (upd_ne fun z => hm (by rw [← z]; exact .b c)) (upd_ne fun z => hm (by rw [← z]; exact .l c))⟩
/-- an object that is in H and not in F comes into F -/
theorem Good.freeze (g : Good K m F H) {p : Addr} {o : HO} (hp : F p = none) (hm : ¬ Touch m p) (h : H p = some o) : Good K m (upd F p o) H := by
  have s : Same F (upd F p o) := fun a u e => by rw [upd_ne (ne_of_none e hp)]; exact e
  refine ⟨fun a u e => ?_, fun c hc => ?_⟩
  · by_cases ha : a = p
    · subst ha; rw [upd_same] at e; rw [h]; exact e
    · rw [upd_ne ha] at e; exact g.sub a u e
  · obtain ⟨h1, h2⟩ := g.bag c hc
    subst hc
    have hbp : c.b ≠ p := fun z => hm (by rw [← z]; exact .b c)
    have hlp : c.l ≠ p := fun z => hm (by rw [← z]; exact .l c)
    exact ⟨⟨by rw [upd_ne hbp]; exact h1.1, by rw [upd_ne hlp]; exact h1.2⟩, h2⟩
theorem same_upd {p : Addr} {o : HO} (hp : F p = none) : Same F (upd F p o) := fun a u e => by rw [upd_ne (ne_of_none e hp)]; exact e
/-- without a bag nothing changes: such a step is one anywhere -/
theorem Step.any (s : Step K none F H F' H') (g : Good K m F H) : Step K m F H F' H' := by
  refine ⟨s.fs, ⟨s.good.sub, fun c hc => ?_⟩, s.new, fun a o _ h => s.keep a o (fun z => nomatch z) h⟩
  obtain ⟨h1, h2⟩ := g.bag c hc
  obtain ⟨⟨o, ho⟩, o2, ho2⟩ := h2.some
  refine ⟨⟨?_, ?_⟩, h2.mono ((s.keep c.b o (fun z => nomatch z) ho).trans ho.symm) ((s.keep c.l o2 (fun z => nomatch z) ho2).trans ho2.symm)⟩
  · cases e : F' c.b with
    | none => rfl
    | some u => exact absurd (s.new c.b h1.1 (by rw [e]; exact fun z => nomatch z)) (by rw [ho]; exact fun z => nomatch z)
  · cases e : F' c.l with
    | none => rfl
    | some u => exact absurd (s.new c.l h1.2 (by rw [e]; exact fun z => nomatch z)) (by rw [ho2]; exact fun z => nomatch z)
theorem Good.any (g : Good K m F H) : Good K none F H := ⟨g.sub, fun _ z => nomatch z⟩

/-! ### trees of objects that are the frame's own -/
mutual
def D.ads : D → List Addr
  | .own p xs => p :: D.adsAll xs
  | .owd p _ xs => p :: D.adsAll xs
  | .owt xs => D.adsAll xs
  | _ => []
def D.adsAll : List D → List Addr
  | [] => []
  | d :: ds => d.ads ++ D.adsAll ds
end
mutual
/-- the same, as data that stays -/
def D.er : D → D
  | .own _ xs => .lst (D.erAll xs)
  | .owd _ ks xs => .dic ks (D.erAll xs)
  | .owt xs => .tup (D.erAll xs)
  | d => d
def D.erAll : List D → List D
  | [] => []
  | d :: ds => d.er :: D.erAll ds
end
mutual
inductive Own (K : PySem.W.Frag) (Fr : Addr → Prop) (F H : Hp) : V → D → Prop
  | is {v : V} {d : D} : Is K F v d → Own K Fr F H v d
  | own {p : Addr} {vs : List V} {xs : List D} : Fr p → H p = some (.lst vs) → OwnAll K Fr F H vs xs → Own K Fr F H (.ref p) (.own p xs)
  | owd {p : Addr} {kvs : List (Key × V)} {ks : List Key} {xs : List D} : Fr p → H p = some (.dK kvs) → kvs.map (·.1) = ks → OwnAll K Fr F H (kvs.map (·.2)) xs → Own K Fr F H (.ref p) (.owd p ks xs)
  | owt {p : Addr} {vs : List V} {xs : List D} : F p = some (.tup vs) → OwnAll K Fr F H vs xs → Own K Fr F H (.ref p) (.owt xs)
inductive OwnAll (K : PySem.W.Frag) (Fr : Addr → Prop) (F H : Hp) : List V → List D → Prop
  | nil : OwnAll K Fr F H [] []
  | cons {v : V} {vs : List V} {d : D} {ds : List D} : Own K Fr F H v d → OwnAll K Fr F H vs ds → OwnAll K Fr F H (v :: vs) (d :: ds)
end
section
variable {Fr Fr' : Addr → Prop}
mutual
theorem Is.noAds : ∀ {v : V} {d : D}, Is K F v d → d.ads = [] ∧ d.er = d
  | _, _, .non => ⟨rfl, rfl⟩
  | _, _, .bl b => ⟨rfl, rfl⟩
  | _, _, .int i => ⟨rfl, rfl⟩
  | _, _, .str x => ⟨rfl, rfl⟩
  | _, _, .ty n => ⟨rfl, rfl⟩
  | _, _, .ref a => ⟨rfl, rfl⟩
  | _, _, .lst h a => ⟨rfl, rfl⟩
  | _, _, .tup h a => ⟨rfl, rfl⟩
  | _, _, .ins h e a => ⟨rfl, rfl⟩
  | _, _, .nam h a => ⟨rfl, rfl⟩
  | _, _, .exc h e a => ⟨rfl, rfl⟩
  | _, _, .er0 h => ⟨rfl, rfl⟩
  | _, _, .er1 h e a => ⟨rfl, rfl⟩
  | _, _, .dic h e a => ⟨rfl, rfl⟩
end
mutual
theorem Own.move (s : Same F F') : ∀ {v : V} {d : D}, Own K Fr F H v d → (∀ p ∈ d.ads, ∀ o, Fr p → H p = some o → Fr' p ∧ H' p = some o) → Own K Fr' F' H' v d
  | _, _, .is h, _ => .is (h.mono s)
  | _, _, .own h1 h2 h3, k => let ⟨a, b⟩ := k _ (List.mem_cons_self ..) _ h1 h2; .own a b (OwnAll.move s h3 fun p hp => k p (List.mem_cons_of_mem _ hp))
  | _, _, .owd h1 h2 h3 h4, k => let ⟨a, b⟩ := k _ (List.mem_cons_self ..) _ h1 h2; .owd a b h3 (OwnAll.move s h4 fun p hp => k p (List.mem_cons_of_mem _ hp))
  | _, _, .owt h1 h2, k => .owt (s _ _ h1) (OwnAll.move s h2 k)
theorem OwnAll.move (s : Same F F') : ∀ {vs : List V} {ds : List D}, OwnAll K Fr F H vs ds → (∀ p ∈ D.adsAll ds, ∀ o, Fr p → H p = some o → Fr' p ∧ H' p = some o) → OwnAll K Fr' F' H' vs ds
  | _, _, .nil, _ => .nil
  | _, _, .cons h t, k => .cons (Own.move s h fun p hp => k p (List.mem_append_left _ hp)) (OwnAll.move s t fun p hp => k p (List.mem_append_right _ hp))
end
mutual
theorem Own.at : ∀ {v : V} {d : D}, Own K Fr F H v d → ∀ p ∈ d.ads, Fr p ∧ ∃ o, H p = some o
  | _, _, .is h, p, hp => by rw [h.noAds.1] at hp; cases hp
  | _, _, .own h1 h2 h3, p, hp => by
    rcases List.mem_cons.mp hp with rfl | hp
    · exact ⟨h1, _, h2⟩
    · exact OwnAll.at h3 p hp
  | _, _, .owd h1 h2 h3 h4, p, hp => by
    rcases List.mem_cons.mp hp with rfl | hp
    · exact ⟨h1, _, h2⟩
    · exact OwnAll.at h4 p hp
  | _, _, .owt h1 h2, p, hp => OwnAll.at h2 p hp
theorem OwnAll.at : ∀ {vs : List V} {ds : List D}, OwnAll K Fr F H vs ds → ∀ p ∈ D.adsAll ds, Fr p ∧ ∃ o, H p = some o
  | _, _, .nil, p, hp => by cases hp
  | _, _, .cons h t, p, hp => by
    rcases List.mem_append.mp hp with hp | hp
    · exact Own.at h p hp
    · exact OwnAll.at t p hp
end
mutual
theorem Own.frz (s : Same F F') : ∀ {v : V} {d : D}, Own K Fr F H v d → (∀ p ∈ d.ads, ∀ o, H p = some o → F' p = some o) → Is K F' v d.er
  | _, _, .is h, _ => by rw [h.noAds.2]; exact h.mono s
  | _, _, .own h1 h2 h3, k => .lst (k _ (List.mem_cons_self ..) _ h2) (OwnAll.frz s h3 fun p hp => k p (List.mem_cons_of_mem _ hp))
  | _, _, .owd h1 h2 h3 h4, k => .dic (k _ (List.mem_cons_self ..) _ h2) h3 (OwnAll.frz s h4 fun p hp => k p (List.mem_cons_of_mem _ hp))
  | _, _, .owt h1 h2, k => .tup (s _ _ h1) (OwnAll.frz s h2 k)
theorem OwnAll.frz (s : Same F F') : ∀ {vs : List V} {ds : List D}, OwnAll K Fr F H vs ds → (∀ p ∈ D.adsAll ds, ∀ o, H p = some o → F' p = some o) → IsAll K F' vs (D.erAll ds)
  | _, _, .nil, _ => .nil
  | _, _, .cons h t, k => .cons (Own.frz s h fun p hp => k p (List.mem_append_left _ hp)) (OwnAll.frz s t fun p hp => k p (List.mem_append_right _ hp))
end
theorem OwnAll.ofIs : ∀ {vs : List V} {ds : List D}, IsAll K F vs ds → OwnAll K Fr F H vs ds ∧ D.adsAll ds = [] ∧ D.erAll ds = ds
  | _, _, .nil => ⟨.nil, rfl, rfl⟩
  | _, _, .cons h t => by
    obtain ⟨h1, h2, h3⟩ := OwnAll.ofIs t
    refine ⟨.cons (.is h) h1, ?_, ?_⟩
    · show _ ++ _ = []
      rw [h.noAds.1, h2]; rfl
    · show _ :: _ = _
      rw [h.noAds.2, h3]
theorem OwnAll.length : ∀ {vs : List V} {ds : List D}, OwnAll K Fr F H vs ds → vs.length = ds.length
  | _, _, .nil => rfl
  | _, _, .cons _ t => congrArg (· + 1) t.length
theorem OwnAll.get : ∀ {vs : List V} {ds : List D} {i : Nat} {d : D}, OwnAll K Fr F H vs ds → ds[i]? = some d → ∃ v, vs[i]? = some v ∧ Own K Fr F H v d
  | _, _, _, _, .nil, e => by simp at e
  | _, _, 0, _, .cons h _, e => by simp at e; subst e; exact ⟨_, rfl, h⟩
  | _, _, i + 1, _, .cons _ t, e => by
    obtain ⟨v, h1, h2⟩ := OwnAll.get (i := i) t (by simpa using e)
    exact ⟨v, by simpa using h1, h2⟩
theorem OwnAll.append : ∀ {vs ws : List V} {ds es : List D}, OwnAll K Fr F H vs ds → OwnAll K Fr F H ws es → OwnAll K Fr F H (vs ++ ws) (ds ++ es)
  | _, _, _, _, .nil, b => b
  | _, _, _, _, .cons h t, b => .cons h (t.append b)
theorem OwnAll.set {v : V} {d : D} (h : Own K Fr F H v d) : ∀ {vs : List V} {ds : List D} (i : Nat), OwnAll K Fr F H vs ds → OwnAll K Fr F H (vs.set i v) (ds.set i d)
  | _, _, _, .nil => .nil
  | _, _, 0, .cons _ t => .cons h t
  | _, _, i + 1, .cons q t => .cons q (t.set h i)
theorem adsAll_get {ds : List D} {i : Nat} {d : D} (h : ds[i]? = some d) {a : Addr} (ha : a ∈ d.ads) : a ∈ D.adsAll ds := by
  induction ds generalizing i with
  | nil => simp at h
  | cons e es ih =>
    cases i with
    | zero => simp at h; subst h; exact List.mem_append_left _ ha
    | succ i => exact List.mem_append_right _ (ih (by simpa using h))
end

/-! ### the slots by their data -/
/-- what may still be changed: a list, an instance that is being made, a dict with int and text keys -/
inductive Cel where
  | lst (ds : List D) | obj (C : Addr) (fs : List (Str × D)) | dic (kvs : List (Key × D))
def CelOk (K : PySem.W.Frag) (F : Hp) (ho : HO) : Cel → Prop
  | .lst ds => ∃ xs, ho = .lst xs ∧ IsAll K F xs ds
  | .obj C fs => ∃ dx gs, ho = .ins C dx gs ∧ gs.map (·.1) = fs.map (·.1) ∧ IsAll K F (gs.map (·.2)) (fs.map (·.2))
  | .dic es => ∃ kvs, ho = .dK kvs ∧ kvs.map (·.1) = es.map (·.1) ∧ IsAll K F (kvs.map (·.2)) (es.map (·.2))
theorem CelOk.ofL {xs : List V} (h : IsAll K F xs ds) : CelOk K F (.lst xs) (.lst ds) := ⟨xs, rfl, h⟩
theorem CelOk.ofO {C dx : Addr} {gs : List (Str × V)} {fs : List (Str × D)} (h : gs.map (·.1) = fs.map (·.1)) (a : IsAll K F (gs.map (·.2)) (fs.map (·.2))) : CelOk K F (.ins C dx gs) (.obj C fs) := ⟨dx, gs, rfl, h, a⟩
theorem CelOk.mono (s : Same F F') {ho : HO} {c : Cel} (h : CelOk K F ho c) : CelOk K F' ho c := by
  cases c with
  | lst ds => obtain ⟨xs, e, a⟩ := h; exact ⟨xs, e, a.mono s⟩
  | obj C fs => obtain ⟨dx, gs, e, n, a⟩ := h; exact ⟨dx, gs, e, n, a.mono s⟩
  | dic es => obtain ⟨kvs, e, n, a⟩ := h; exact ⟨kvs, e, n, a.mono s⟩
inductive Slot where
  /-- data that stays -/
  | frz (d : D)
  /-- an object of this frame's own, still to be changed: what stands in it stays -/
  | own (p : Addr) (c : Cel)
  /-- data that a caller may still change: a list that is only read here -/
  | lent (d : D)
  /-- a tree of objects of this frame's own -/
  | prv (d : D)
abbrev Ev := List (Option Slot)
-- H0: the heap at the frame's entry
-- a part of the heap that is read and nobody changes here: it was there at the beginning
def RdOk (m : Option Mem) (H0 H R : Hp) : Prop := ∀ a o, R a = some o → H a = some o ∧ ¬ Touch m a ∧ ∃ o', H0 a = some o'
theorem RdOk.step {H0 R : Hp} (h : RdOk m H0 H R) (t : Step K m F H F' H') : RdOk m H0 H' R := fun a o e => let ⟨h1, h2, h3⟩ := h a o e; ⟨t.keep a o h2 h1, h2, h3⟩
theorem RdOk.any {H0 R : Hp} (h : RdOk m H0 H R) : RdOk none H0 H R := fun a o e => let ⟨h1, _, h3⟩ := h a o e; ⟨h1, (fun z => nomatch z), h3⟩
def LIs (K : PySem.W.Frag) (m : Option Mem) (H0 F H : Hp) (v : V) (d : D) : Prop := Is K F v d ∨ ∃ R, RdOk m H0 H R ∧ Is K R v d
/-- of this frame's own -/
def Fro (m : Option Mem) (H0 F : Hp) (a : Addr) : Prop := ¬ Touch m a ∧ F a = none ∧ H0 a = none
def SlotOk (K : PySem.W.Frag) (m : Option Mem) (H0 F H : Hp) (v : V) : Slot → Prop
  | .lent d => LIs K m H0 F H v d
  | .frz d => Is K F v d
  | .prv d => Own K (Fro m H0 F) F H v d ∧ d.ads.Nodup
  | .own p c => ∃ ho, v = .ref p ∧ ¬ Touch m p ∧ F p = none ∧ H0 p = none ∧ H p = some ho ∧ CelOk K F ho c
def Slot.prvs : Slot → List Addr | .prv d => d.ads | _ => []
def Slot.ads : Slot → List Addr | .prv d => d.ads | .own p _ => [p] | _ => []
def Apt (env : Ev) : Prop := ∀ (i j : Nat) (s t : Slot) (a : Addr), i ≠ j → env[i]? = some (some s) → env[j]? = some (some t) → a ∈ s.prvs → a ∉ t.ads
structure Envs (K : PySem.W.Frag) (m : Option Mem) (H0 F H : Hp) (σ : L2.St) (env : Ev) : Prop where
  at_ : ∀ (i : Nat) (s : Slot), env[i]? = some (some s) → ∃ v, σ[i]? = some (some v) ∧ SlotOk K m H0 F H v s
  len : σ.length = env.length
  apart : ∀ (i j : Nat) (ds es : Cel) (p : Addr), i ≠ j → env[i]? = some (some (.own p ds)) → env[j]? ≠ some (some (.own p es))
  apt : Apt env
theorem SlotOk.step {H0 : Hp} {s : Slot} (h : SlotOk K m H0 F H v s) (t : Step K m F H F' H') : SlotOk K m H0 F' H' v s := by
  cases s with
  | frz d => exact Is.mono t.fs h
  | lent d =>
    rcases h with h | ⟨R, hR, h⟩
    · exact .inl (Is.mono t.fs h)
    · exact .inr ⟨R, hR.step t, h⟩
  | prv d =>
    refine ⟨h.1.move t.fs fun p _ o hf ho => ?_, h.2⟩
    have ho' := t.keep p o hf.1 ho
    refine ⟨⟨hf.1, ?_, hf.2.2⟩, ho'⟩
    cases e : F' p with
    | none => rfl
    | some u => exact absurd (t.new p hf.2.1 (by rw [e]; exact fun z => nomatch z)) (by rw [ho]; exact fun z => nomatch z)
  | own p ds =>
    obtain ⟨xs, rfl, hm, h1, h2, h3, h4⟩ := h
    refine ⟨xs, rfl, hm, ?_, h2, t.keep p _ hm h3, h4.mono t.fs⟩
    cases e : F' p with
    | none => rfl
    | some o => exact absurd (t.new p h1 (by rw [e]; exact fun z => nomatch z)) (by rw [h3]; exact fun z => nomatch z)
theorem Envs.step {H0 : Hp} {σ : L2.St} {env : Ev} (h : Envs K m H0 F H σ env) (t : Step K m F H F' H') : Envs K m H0 F' H' σ env :=
  ⟨fun i s e => let ⟨v, h1, h2⟩ := h.at_ i s e; ⟨v, h1, h2.step t⟩, h.len, h.apart, h.apt⟩
theorem set_at {env : Ev} {i j : Nat} {o : Option Slot} {s : Slot} (e : (env.set i o)[j]? = some (some s)) : (i = j ∧ i < env.length ∧ o = some s) ∨ (i ≠ j ∧ env[j]? = some (some s)) := by
  by_cases hij : i = j
  · subst hij
    by_cases hl : i < env.length
    · rw [List.getElem?_set_self hl] at e
      exact .inl ⟨rfl, hl, Option.some.inj e⟩
    · rw [List.getElem?_eq_none (by simpa using hl)] at e; cases e
  · rw [List.getElem?_set_ne hij] at e
    exact .inr ⟨hij, e⟩
theorem Apt.set {env : Ev} {i : Nat} {o : Option Slot} (h : Apt env) (ho : ∀ s, o = some s → s.ads = []) : Apt (env.set i o) := fun j k s t a hjk e1 e2 ha => by
  have pa : ∀ s : Slot, s.ads = [] → s.prvs = [] := fun s hs => by cases s <;> first | rfl | exact hs
  rcases set_at e1 with ⟨rfl, _, e⟩ | ⟨hj, e1⟩
  · rw [pa s (ho s e)] at ha; cases ha
  rcases set_at e2 with ⟨rfl, _, e⟩ | ⟨hk, e2⟩
  · rw [ho t e]; exact fun z => nomatch z
  · exact h j k s t a hjk e1 e2 ha
theorem Apt.put {env : Ev} {i : Nat} {u : Slot} (h : Apt env) (h1 : ∀ j t a, j ≠ i → env[j]? = some (some t) → a ∈ t.prvs → a ∉ u.ads) (h2 : ∀ j t a, j ≠ i → env[j]? = some (some t) → a ∈ u.prvs → a ∉ t.ads) : Apt (env.set i (some u)) := fun j k s t a hjk e1 e2 ha => by
  rcases set_at e1 with ⟨rfl, _, e⟩ | ⟨hj, e1⟩
  · cases e
    rcases set_at e2 with ⟨z, _, _⟩ | ⟨hk, e2⟩
    · exact absurd z hjk
    · exact h2 k t a (Ne.symm hk) e2 ha
  rcases set_at e2 with ⟨rfl, _, e⟩ | ⟨hk, e2⟩
  · cases e
    exact h1 j s a (Ne.symm hj) e1 ha
  · exact h j k s t a hjk e1 e2 ha
theorem Envs.frz {H0 : Hp} {σ : L2.St} {env : Ev} {i : Nat} (h : Envs K m H0 F H σ env) (hv : Is K F v d) : Envs K m H0 F H (σ.set i (some v)) (env.set i (some (.frz d))) := by
  refine ⟨fun j s e => ?_, by rw [List.length_set, List.length_set]; exact h.len, fun j k ds es p hjk e1 e2 => ?_, h.apt.set fun s e => by cases e; rfl⟩
  · rcases set_at e with ⟨rfl, hl, e⟩ | ⟨hij, e⟩
    · cases e
      exact ⟨v, List.getElem?_set_self (by rw [h.len]; exact hl), hv⟩
    · rw [List.getElem?_set_ne hij]
      exact h.at_ j s e
  · rcases set_at e1 with ⟨_, _, e⟩ | ⟨hj, e1⟩
    · cases e
    rcases set_at e2 with ⟨_, _, e⟩ | ⟨hk, e2⟩
    · cases e
    exact h.apart j k ds es p hjk e1 e2
/-- a slot that holds what is not told -/
theorem Envs.wipe {H0 : Hp} {σ : L2.St} {env : Ev} {i : Nat} {o : Option V} (h : Envs K m H0 F H σ env) : Envs K m H0 F H (σ.set i o) (env.set i none) := by
  refine ⟨fun j s e => ?_, by rw [List.length_set, List.length_set]; exact h.len, fun j k ds es p hjk e1 e2 => ?_, h.apt.set fun s e => by cases e⟩
  · rcases set_at e with ⟨_, _, e⟩ | ⟨hij, e⟩
    · cases e
    · rw [List.getElem?_set_ne hij]
      exact h.at_ j s e
  · rcases set_at e1 with ⟨_, _, e⟩ | ⟨hj, e1⟩
    · cases e
    rcases set_at e2 with ⟨_, _, e⟩ | ⟨hk, e2⟩
    · cases e
    exact h.apart j k ds es p hjk e1 e2
/-- less is told -/
theorem Envs.less {H0 : Hp} {σ : L2.St} {env env' : Ev} (h : Envs K m H0 F H σ env) (hl : env'.length = env.length) (hs : ∀ (i : Nat) s, env'[i]? = some (some s) → env[i]? = some (some s)) : Envs K m H0 F H σ env' :=
  ⟨fun i s e => h.at_ i s (hs i s e), h.len.trans hl.symm, fun i j ds es p hij e1 e2 => h.apart i j ds es p hij (hs _ _ e1) (hs _ _ e2), fun i j s t a hij e1 e2 => h.apt i j s t a hij (hs _ _ e1) (hs _ _ e2)⟩
/-- a new list of the frame's own -/
theorem Envs.ownL {H0 : Hp} {σ : L2.St} {env : Ev} {i : Nat} {p : Addr} {ho : HO} {c : Cel} (g : Good K m F H) (h : Envs K m H0 F H σ env) (s : Step K m F H F' H') (hp : H p = none) (h0 : H0 p = none) (hF : F' p = none) (hH : H' p = some ho) (ha : CelOk K F' ho c) :
    Envs K m H0 F' H' (σ.set i (some (.ref p))) (env.set i (some (.own p c))) := by
  have hm : ¬ Touch m p := g.notm hp
  have old : ∀ (j : Nat) (es : Cel), env[j]? ≠ some (some (.own p es)) := fun j es e => by
    obtain ⟨v, h1, xs', hv, hm', h2, h3, h4, h5⟩ := h.at_ j _ e
    rw [hp] at h4; cases h4
  have h' := h.step s
  refine ⟨fun j s e => ?_, by rw [List.length_set, List.length_set]; exact h.len, fun j k es fs q hjk e1 e2 => ?_, h.apt.put (fun j t a hj e ha => ?_) fun j t a hj e ha => nomatch ha⟩
  · rcases set_at e with ⟨rfl, hl, e⟩ | ⟨hij, e⟩
    · cases e
      exact ⟨_, List.getElem?_set_self (by rw [h.len]; exact hl), ho, rfl, hm, hF, h0, hH, ha⟩
    · rw [List.getElem?_set_ne hij]
      exact h'.at_ j s e
  · rcases set_at e1 with ⟨rfl, hl, e⟩ | ⟨hj, e1⟩
    · cases e
      rcases set_at e2 with ⟨z, _, _⟩ | ⟨hk, e2⟩
      · exact hjk z
      · exact old k _ e2
    rcases set_at e2 with ⟨rfl, hl, e⟩ | ⟨hk, e2⟩
    · cases e
      exact old j _ e1
    exact h.apart j k es fs q hjk e1 e2
  · cases t with
    | prv d =>
      obtain ⟨v, _, h2, _⟩ := h.at_ j _ e
      obtain ⟨_, o, ho⟩ := h2.at a ha
      intro z
      rw [List.mem_singleton.mp z, hp] at ho; cases ho
    | _ => cases ha
/-- the frame's own list at slot i changes -/
theorem Envs.mut {H0 : Hp} {σ : L2.St} {env : Ev} {i : Nat} {p : Addr} {ho : HO} {ds es : Cel} (h : Envs K m H0 F H σ env) (e : env[i]? = some (some (.own p ds))) (ha : CelOk K F ho es) :
    Envs K m H0 F (upd H p ho) σ (env.set i (some (.own p es))) := by
  refine ⟨fun j s ej => ?_, by rw [List.length_set]; exact h.len, fun j k fs gs q hjk e1 e2 => ?_, h.apt.put (fun j t a hj e' ha => h.apt j i t (.own p ds) a hj e' e ha) fun j t a hj e ha => nomatch ha⟩
  · rcases set_at ej with ⟨rfl, hl, ej⟩ | ⟨hij, ej⟩
    · cases ej
      obtain ⟨v, h1, xs', hv, hm, h2, h3, h4, h5⟩ := h.at_ i _ e
      cases hv
      exact ⟨_, h1, ho, rfl, hm, h2, h3, upd_same, ha⟩
    · obtain ⟨v, h1, h2⟩ := h.at_ j s ej
      refine ⟨v, h1, ?_⟩
      cases s with
      | frz d => exact h2
      | lent d =>
        rcases h2 with h2 | ⟨R, hR, h2⟩
        · exact .inl h2
        · refine .inr ⟨R, fun a o ea => ?_, h2⟩
          obtain ⟨h3, h4, o', h5⟩ := hR a o ea
          obtain ⟨v2, _, ho2, _, _, _, g3, _⟩ := h.at_ i _ e
          refine ⟨?_, h4, o', h5⟩
          rw [upd_ne (fun (z : a = p) => by rw [z, g3] at h5; cases h5)]
          exact h3
      | prv d =>
        refine ⟨h2.1.move (Same.refl _) fun q hq o hf ho => ⟨hf, ?_⟩, h2.2⟩
        rw [upd_ne (fun z : q = p => ?_)]
        · exact ho
        · exact h.apt j i _ _ q (Ne.symm hij) ej e hq (List.mem_singleton.mpr z)
      | own p' fs =>
        obtain ⟨xs', rfl, hm, h3, h4, h5, h6⟩ := h2
        refine ⟨xs', rfl, hm, h3, h4, ?_, h6⟩
        rw [upd_ne (fun (z : p' = p) => h.apart i j _ fs p hij e (by rw [← z]; exact ej))]
        exact h5
  · rcases set_at e1 with ⟨rfl, hl, e1⟩ | ⟨hj, e1⟩
    · cases e1
      rcases set_at e2 with ⟨z, _, _⟩ | ⟨hk, e2⟩
      · exact hjk z
      · exact h.apart i k ds gs p hjk e e2
    rcases set_at e2 with ⟨rfl, hl, e2⟩ | ⟨hk, e2⟩
    · cases e2
      exact h.apart j i fs ds p hjk e1 e
    exact h.apart j k fs gs q hjk e1 e2
/-- the frame's own list at slot i stays from now on -/
theorem Envs.freeze {H0 : Hp} {σ : L2.St} {env : Ev} {i : Nat} {p : Addr} (g : Good K m F H) (h : Envs K m H0 F H σ env) (e : env[i]? = some (some (.own p (.lst ds)))) :
    ∃ xs, σ[i]? = some (some (.ref p)) ∧ ¬ Touch m p ∧ F p = none ∧ H0 p = none ∧ H p = some (.lst xs) ∧ IsAll K F xs ds ∧ Good K m (upd F p (.lst xs)) H ∧ Envs K m H0 (upd F p (.lst xs)) H σ (env.set i (some (.frz (.lst ds)))) := by
  obtain ⟨v, h1, ho, rfl, hm, h2, h3, h4, xs, rfl, h5⟩ := h.at_ i _ e
  have s : Same F (upd F p (.lst xs)) := same_upd h2
  refine ⟨xs, h1, hm, h2, h3, h4, h5, g.freeze h2 hm h4, fun j t ej => ?_, by rw [List.length_set]; exact h.len, fun j k fs gs q hjk e1 e2 => ?_, h.apt.set fun s e => by cases e; rfl⟩
  · rcases set_at ej with ⟨rfl, hl, ej⟩ | ⟨hij, ej⟩
    · cases ej
      exact ⟨_, h1, Is.lst upd_same (h5.mono s)⟩
    · obtain ⟨v, g1, g2⟩ := h.at_ j t ej
      refine ⟨v, g1, ?_⟩
      cases t with
      | frz d => exact Is.mono s g2
      | lent d =>
        rcases g2 with g2 | g2
        · exact .inl (Is.mono s g2)
        · exact .inr g2
      | prv d =>
        refine ⟨g2.1.move s fun q hq o hf ho => ⟨⟨hf.1, ?_, hf.2.2⟩, ho⟩, g2.2⟩
        rw [upd_ne (fun z : q = p => ?_)]
        · exact hf.2.1
        · exact h.apt j i _ _ q (Ne.symm hij) ej e hq (List.mem_singleton.mpr z)
      | own p' fs =>
        obtain ⟨xs', rfl, hm', h3', h4', h5', h6⟩ := g2
        refine ⟨xs', rfl, hm', ?_, h4', h5', h6.mono s⟩
        rw [upd_ne (fun (z : p' = p) => h.apart i j _ fs p hij e (by rw [← z]; exact ej))]
        exact h3'
  · rcases set_at e1 with ⟨_, _, e1⟩ | ⟨hj, e1⟩
    · cases e1
    rcases set_at e2 with ⟨_, _, e2⟩ | ⟨hk, e2⟩
    · cases e2
    exact h.apart j k fs gs q hjk e1 e2
mutual
theorem own_noX {p : Addr} {gs : List (Str × V)} {Fr : Addr → Prop} (hH : H p = some (.xd gs)) : ∀ {v : V} {d : D}, Own K Fr F H v d → p ∉ d.ads
  | _, _, .is h => by rw [h.noAds.1]; exact fun z => nomatch z
  | _, _, .own h1 h2 h3 => fun z => by
    rcases List.mem_cons.mp z with rfl | z
    · rw [hH] at h2; cases h2
    · exact ownAll_noX hH h3 z
  | _, _, .owd h1 h2 h3 h4 => fun z => by
    rcases List.mem_cons.mp z with rfl | z
    · rw [hH] at h2; cases h2
    · exact ownAll_noX hH h4 z
  | _, _, .owt h1 h2 => ownAll_noX hH h2
theorem ownAll_noX {p : Addr} {gs : List (Str × V)} {Fr : Addr → Prop} (hH : H p = some (.xd gs)) : ∀ {vs : List V} {ds : List D}, OwnAll K Fr F H vs ds → p ∉ D.adsAll ds
  | _, _, .nil => fun z => nomatch z
  | _, _, .cons h t => fun z => by
    rcases List.mem_append.mp z with z | z
    · exact own_noX hH h z
    · exact ownAll_noX hH t z
end
/-- an exception's dict stays from now on -/
theorem Envs.freezeX {H0 : Hp} {σ : L2.St} {env : Ev} {p : Addr} {gs : List (Str × V)} (h : Envs K m H0 F H σ env) (hF : F p = none) (hH : H p = some (.xd gs)) : Envs K m H0 (upd F p (.xd gs)) H σ env := by
  refine ⟨fun i s e => ?_, h.len, h.apart, h.apt⟩
  obtain ⟨v, h1, h2⟩ := h.at_ i s e
  refine ⟨v, h1, ?_⟩
  have sm : Same F (upd F p (.xd gs)) := same_upd hF
  cases s with
  | frz d => exact Is.mono sm h2
  | lent d =>
    rcases h2 with h2 | h2
    · exact .inl (Is.mono sm h2)
    · exact .inr h2
  | prv d =>
    have key : ∀ q ∈ d.ads, q ≠ p := fun q hq z => by
      have hk := own_noX (p := p) (gs := gs) hH h2.1
      exact hk (z ▸ hq)
    exact ⟨h2.1.move sm fun q hq o hf ho => ⟨⟨hf.1, by rw [upd_ne (key q hq)]; exact hf.2.1, hf.2.2⟩, ho⟩, h2.2⟩
  | own p' c =>
    obtain ⟨ho, e1, hm, e3, e4, e5, e6⟩ := h2
    refine ⟨ho, e1, hm, ?_, e4, e5, e6.mono sm⟩
    rw [upd_ne (fun z : p' = p => ?_)]
    · exact e3
    · rw [z, hH] at e5
      cases e5
      cases c with
      | lst ds => obtain ⟨_, z, _⟩ := e6; cases z
      | obj C fs => obtain ⟨_, _, z, _⟩ := e6; cases z
      | dic es => obtain ⟨_, z, _⟩ := e6; cases z
end
end DL
set_option Elab.async false
set_option linter.all false
set_option maxRecDepth 100000
set_option autoImplicit false
/-! DL, part 2: the judgements over data, and the rules for expressions. -/
namespace DL
open PySem L2

/-! ### readings by themselves -/
def TEc (X : Cx) (e : Expr) : TE := fun σ H Q => ∀ pins s, Inv X pins σ H s → wpAny (model X.prog X.w) X.A (eval e X.env) (EP X pins σ Q) X.xe s
theorem pe_can {X : Cx} {e : Expr} : PE X e (TEc X e) := ⟨fun pins s _ _ _ I h => h pins s I⟩
theorem tec {X : Cx} {e : Expr} {t : TE} (h : PE X e t) {σ : L2.St} {H : Hp} {Q : VK} (q : t σ H Q) : TEc X e σ H Q := fun pins s I => h.run pins s σ H Q I q
def TTc (X : Cx) (e : Expr) : TT := fun σ H Q => ∀ pins s, Inv X pins σ H s → wpAny (model X.prog X.w) X.A (isTrue e X.env (eval e X.env)) (TP X pins σ Q) X.xe s
theorem pt_can {X : Cx} {e : Expr} : PT X e (TTc X e) := ⟨fun pins s _ _ _ I h => h pins s I⟩
theorem ttc {X : Cx} {e : Expr} {t : TT} (h : PT X e t) {σ : L2.St} {H : Hp} {Q : Bool → Hp → Prop} (q : t σ H Q) : TTc X e σ H Q := fun pins s I => h.run pins s σ H Q I q
def TWc (X : Cx) (e : Expr) : TT := fun σ H Q => ∀ whole pins s, Inv X pins σ H s → wpAny (model X.prog X.w) X.A (isTrue e X.env whole) (TP X pins σ Q) X.xe s
theorem pw_can {X : Cx} {e : Expr} : PW X e (TWc X e) := ⟨fun wh pins s _ _ _ I h => h wh pins s I⟩
theorem twc {X : Cx} {e : Expr} {t : TT} (h : PW X e t) {σ : L2.St} {H : Hp} {Q : Bool → Hp → Prop} (q : t σ H Q) : TWc X e σ H Q := fun wh pins s I => h.run wh pins s σ H Q I q
def TAc (X : Cx) (es : List Expr) : TA := fun σ H Q => ∀ pos pins s, Inv X pins σ H s → wpAny (model X.prog X.w) X.A (spliced (backTo pos (starEach es X.env))) (AP X pins σ Q) X.xe s
theorem pa_can {X : Cx} {es : List Expr} : PA X es (TAc X es) := ⟨fun pos pins s _ _ _ I h => h pos pins s I⟩
theorem tac {X : Cx} {es : List Expr} {t : TA} (h : PA X es t) {σ : L2.St} {H : Hp} {Q : List V → Hp → Prop} (q : t σ H Q) : TAc X es σ H Q := fun pos pins s I => h.run pos pins s σ H Q I q

/-! ### the judgements -/
/-- what comes of it -/
def Then (K : PySem.W.Frag) (m : Option Mem) (F H : Hp) (P : D → Prop) (k : VK) : Prop := ∀ v d F' H', Step K m F H F' H' → Is K F' v d → P d → k v H'
def ThenT (K : PySem.W.Frag) (m : Option Mem) (F H : Hp) (P : Bool → Prop) (k : Bool → Hp → Prop) : Prop := ∀ b F' H', Step K m F H F' H' → P b → k b H'
def ThenA (K : PySem.W.Frag) (m : Option Mem) (F H : Hp) (P : List D → Prop) (k : List V → Hp → Prop) : Prop := ∀ vs ds F' H', Step K m F H F' H' → IsAll K F' vs ds → P ds → k vs H'
/-- a new list at an address of its own that is not yet in F' -/
def ThenL (K : PySem.W.Frag) (m : Option Mem) (F H : Hp) (P : List D → Prop) (k : VK) : Prop := ∀ p xs ds F' H', H p = none → F' p = none → Step K m F H F' H' → H' p = some (.lst xs) → IsAll K F' xs ds → P ds → k (.ref p) H'
structure WE (X : Cx) (m : Option Mem) (env : Ev) (e : Expr) (P : D → Prop) : Prop where
  run : ∀ σ H0 F H k, Good X.K m F H → Envs X.K m H0 F H σ env → Then X.K m F H P k → TEc X e σ H k
structure WL (X : Cx) (m : Option Mem) (env : Ev) (e : Expr) (P : List D → Prop) : Prop where
  run : ∀ σ H0 F H k, Good X.K m F H → Envs X.K m H0 F H σ env → ThenL X.K m F H P k → TEc X e σ H k
structure WT (X : Cx) (m : Option Mem) (env : Ev) (e : Expr) (P : Bool → Prop) : Prop where
  run : ∀ σ H0 F H k, Good X.K m F H → Envs X.K m H0 F H σ env → ThenT X.K m F H P k → TTc X e σ H k
structure WW (X : Cx) (m : Option Mem) (env : Ev) (e : Expr) (P : Bool → Prop) : Prop where
  run : ∀ σ H0 F H k, Good X.K m F H → Envs X.K m H0 F H σ env → ThenT X.K m F H P k → TWc X e σ H k
structure WA (X : Cx) (m : Option Mem) (env : Ev) (es : List Expr) (P : List D → Prop) : Prop where
  run : ∀ σ H0 F H k, Good X.K m F H → Envs X.K m H0 F H σ env → ThenA X.K m F H P k → TAc X es σ H k

section
variable {K : PySem.W.Frag} {m : Option Mem} {F H F' H' : Hp} {P : D → Prop} {k : VK}
theorem Then.at (h : Then K m F H P k) (g : Good K m F H) {v : V} {d : D} (hv : Is K F v d) (hP : P d) : k v H := h v d F H (.refl g) hv hP
theorem ThenT.at {P : Bool → Prop} {k : Bool → Hp → Prop} (h : ThenT K m F H P k) (g : Good K m F H) {b : Bool} (hP : P b) : k b H := h b F H (.refl g) hP
theorem Then.after (h : Then K m F H P k) (s : Step K m F H F' H') : Then K m F' H' P k := fun v d F2 H2 t hv hP => h v d F2 H2 (s.trans t) hv hP
theorem ThenT.after {P : Bool → Prop} {k : Bool → Hp → Prop} (h : ThenT K m F H P k) (s : Step K m F H F' H') : ThenT K m F' H' P k := fun b F2 H2 t hP => h b F2 H2 (s.trans t) hP
theorem ThenA.after {P : List D → Prop} {k : List V → Hp → Prop} (h : ThenA K m F H P k) (s : Step K m F H F' H') : ThenA K m F' H' P k := fun v d F2 H2 t hv hP => h v d F2 H2 (s.trans t) hv hP
theorem fresh_before (s : Step K m F H F' H') (g : Good K m F H) {p : Addr} (hp : H' p = none) : H p = none := by
  cases e : H p with
  | none => rfl
  | some o =>
    by_cases hm : Touch m p
    · obtain ⟨u, hu⟩ := s.good.touch hm
      rw [hu] at hp; cases hp
    · rw [s.keep p o hm e] at hp; cases hp
theorem ThenL.after {P : List D → Prop} (h : ThenL K m F H P k) (s : Step K m F H F' H') (g : Good K m F H) : ThenL K m F' H' P k := fun p xs ds F2 H2 h1 h2 t e ha hP => h p xs ds F2 H2 (fresh_before s g h1) h2 (s.trans t) e ha hP
theorem Good.noF (g : Good K m F H) {p : Addr} (hp : H p = none) : F p = none := by
  cases e : F p with
  | none => rfl
  | some u => rw [g.sub p u e] at hp; cases hp
/-- a new list, laid now -/
theorem ThenL.laid {P : List D → Prop} (h : ThenL K m F H P k) (g : Good K m F H) {p : Addr} {xs : List V} {ds : List D} (hp : H p = none) (ha : IsAll K F xs ds) (hP : P ds) : k (.ref p) (upd H p (.lst xs)) :=
  h p xs ds F _ hp (g.noF hp) (g.fresh hp) upd_same ha hP
theorem Then.laidT (h : Then K m F H P k) (g : Good K m F H) {p : Addr} {xs : List V} {ds : List D} (hp : H p = none) (ha : IsAll K F xs ds) (hP : P (.tup ds)) : k (.ref p) (upd H p (.tup xs)) :=
  h _ _ (upd F p (.tup xs)) _ (g.grow hp) (.tup upd_same (ha.mono (same_upd (g.noF hp)))) hP
end

/-! ### data by its form -/
abbrev asInt (d : D) (P : Int → Prop) : Prop := match d with | .int i => P i | _ => False
abbrev asBl (d : D) (P : Bool → Prop) : Prop := match d with | .bl b => P b | _ => False
abbrev asLst (d : D) (P : List D → Prop) : Prop := match d with | .lst xs => P xs | _ => False
abbrev asTup (d : D) (P : List D → Prop) : Prop := match d with | .tup xs => P xs | _ => False
abbrev asRef (d : D) (P : Addr → Prop) : Prop := match d with | .ref a => P a | _ => False

section
variable {K : PySem.W.Frag} {F : Hp} {v : V} {d : D}
theorem Is.asInt (h : Is K F v d) {P : Int → Prop} (q : DL.asInt d P) : ∃ i, v = .int i ∧ d = .int i ∧ P i := by
  cases h <;> first | exact q.elim | exact ⟨_, rfl, rfl, q⟩
theorem Is.asBl (h : Is K F v d) {P : Bool → Prop} (q : DL.asBl d P) : ∃ i, v = .bl i ∧ d = .bl i ∧ P i := by
  cases h <;> first | exact q.elim | exact ⟨_, rfl, rfl, q⟩
theorem Is.asLst (h : Is K F v d) {P : List D → Prop} (q : DL.asLst d P) : ∃ p xs ds, v = .ref p ∧ d = .lst ds ∧ F p = some (.lst xs) ∧ IsAll K F xs ds ∧ P ds := by
  cases h <;> first | exact q.elim | skip
  rename_i p xs ds h1 h2
  exact ⟨p, xs, ds, rfl, rfl, h1, h2, q⟩
theorem Is.asTup (h : Is K F v d) {P : List D → Prop} (q : DL.asTup d P) : ∃ p xs ds, v = .ref p ∧ d = .tup ds ∧ F p = some (.tup xs) ∧ IsAll K F xs ds ∧ P ds := by
  cases h <;> first | exact q.elim | skip
  rename_i p xs ds h1 h2
  exact ⟨p, xs, ds, rfl, rfl, h1, h2, q⟩
end

/-! ### expressions -/
section
variable {X : Cx} {m : Option Mem} {env : Ev} {a b c e : Expr} {es : List Expr} {P : D → Prop} {pos : Pos}
theorem WE.mono {P P' : D → Prop} (h : WE X m env e P) (i : ∀ d, P d → P' d) : WE X m env e P' := ⟨fun σ H0 F H k g ev t => h.run σ H0 F H k g ev fun v d F' H' s hv hP => t v d F' H' s hv (i d hP)⟩
theorem WT.mono {P P' : Bool → Prop} (h : WT X m env e P) (i : ∀ d, P d → P' d) : WT X m env e P' := ⟨fun σ H0 F H k g ev t => h.run σ H0 F H k g ev fun b F' H' s hP => t b F' H' s (i b hP)⟩
theorem WL.mono {P P' : List D → Prop} (h : WL X m env e P) (i : ∀ d, P d → P' d) : WL X m env e P' := ⟨fun σ H0 F H k g ev t => h.run σ H0 F H k g ev fun p xs ds F' H' h1 h2 s e ha hP => t p xs ds F' H' h1 h2 s e ha (i ds hP)⟩
/-- a list that nobody will change -/
theorem WL.we {P : D → Prop} (h : WL X m env e fun ds => P (.lst ds)) : WE X m env e P := by
  refine ⟨fun σ H0 F H k g ev t => h.run σ H0 F H k g ev fun p xs ds F' H' h1 h2 s e ha hP => ?_⟩
  have hm : ¬ Touch m p := fun z => by
    obtain ⟨u, hu⟩ := g.touch z
    rw [hu] at h1; cases h1
  refine t _ _ (upd F' p (.lst xs)) H' ⟨s.fs.trans (same_upd h2), s.good.freeze h2 hm e, fun a q1 q2 => ?_, s.keep⟩ (.lst upd_same (ha.mono (same_upd h2))) hP
  by_cases hap : a = p
  · subst hap; exact h1
  · rw [upd_ne hap] at q2; exact s.new a q1 q2
theorem we_name (i : Nat) {x : Str} {d : D} (hN : X.N[i]? = some x) (hv : Vis X.env.scope x) (hd : (x == ("__debug__" : Str)) = false) (hcd : (x == ("__classdict__" : Str)) = false) (he : env[i]? = some (some (.frz d))) (h : P d) : WE X m env (.Name x pos) P := by
  refine ⟨fun σ H0 F H k g ev t => tec (pe_var hN hv hd hcd) ?_⟩
  obtain ⟨v, h1, h2⟩ := ev.at_ i _ he
  exact ⟨v, h1, t.at g h2 h⟩
theorem we_int {i : Int} {j : Nat} (h : P (.int i)) : WE X m env (.Constant (.int i) j pos) P := ⟨fun σ H0 F H k g ev t => tec pe_int (t.at g (.int i) h)⟩
theorem we_bl {i : Bool} {j : Nat} (h : P (.bl i)) : WE X m env (.Constant (.bool i) j pos) P := ⟨fun σ H0 F H k g ev t => tec pe_bl (t.at g (.bl i) h)⟩
theorem we_non {j : Nat} (h : P .non) : WE X m env (.Constant .none j pos) P := ⟨fun σ H0 F H k g ev t => tec pe_non (t.at g .non h)⟩
theorem we_str {x : Str} {j : Nat} (h : P (.str x)) : WE X m env (.Constant (.str x) j pos) P := ⟨fun σ H0 F H k g ev t => tec pe_str (t.at g (.str x) h)⟩
theorem we_glob {x : Str} {d : D} {v : V} {u : Value} (hg : Gl X x) (hm : X.mg x = some u) (r : RelV v u) (hf : DL.flat d = some v) (hd : (x == ("__debug__" : Str)) = false) (h : P d) : WE X m env (.Name x pos) P :=
  ⟨fun σ H0 F H k g ev t => tec (pe_glob hg hm r hd) (t.at g (is_flat hf) h)⟩
theorem we_bltn {x : Str} {n : String} (hg : Gl X x) (hm : X.mg x = none) (hv : bootBuiltins x = some (.type n)) (hn : x ≠ "__name__") (hd : (x == ("__debug__" : Str)) = false) (h : P (.ty n)) : WE X m env (.Name x pos) P :=
  ⟨fun σ H0 F H k g ev t => tec (pe_bltn hg hm hv (v := .ty n) rfl hn hd) (t.at g (.ty n) h)⟩

/-- a two-place operation on data -/
structure R2D (K : PySem.W.Frag) (m : Option Mem) (r : R2) (x y : D) (P : D → Prop) : Prop where
  run : ∀ F H v w k, Good K m F H → Is K F v x → Is K F w y → Then K m F H P k → r v w H k
structure R2L (K : PySem.W.Frag) (m : Option Mem) (r : R2) (x y : D) (P : List D → Prop) : Prop where
  run : ∀ F H v w k, Good K m F H → Is K F v x → Is K F w y → ThenL K m F H P k → r v w H k
theorem we_tOp {t : TE} {r : R2} (h : PE X e t) (ht : t = tOp r (TEc X a) (TEc X b)) (w : WE X m env a fun x => WE X m env b fun y => R2D X.K m r x y P) : WE X m env e P := by
  subst ht
  refine ⟨fun σ H0 F H k g ev t => tec h ?_⟩
  refine w.run σ H0 F H _ g ev fun x dx F1 H1 s1 hx w1 => ?_
  refine w1.run σ H0 F1 H1 _ s1.good (ev.step s1) fun y dy F2 H2 s2 hy q => ?_
  exact q.run F2 H2 x y k s2.good (hx.mono s2.fs) hy ((t.after s1).after s2)
theorem wl_tOp {t : TE} {r : R2} {P : List D → Prop} (h : PE X e t) (ht : t = tOp r (TEc X a) (TEc X b)) (w : WE X m env a fun x => WE X m env b fun y => R2L X.K m r x y P) : WL X m env e P := by
  subst ht
  refine ⟨fun σ H0 F H k g ev t => tec h ?_⟩
  refine w.run σ H0 F H _ g ev fun x dx F1 H1 s1 hx w1 => ?_
  refine w1.run σ H0 F1 H1 _ s1.good (ev.step s1) fun y dy F2 H2 s2 hy q => ?_
  exact q.run F2 H2 x y k s2.good (hx.mono s2.fs) hy ((t.after s1 g).after s2 s1.good)
theorem r2_I0 {K : PySem.W.Frag} {f : Int → Int → V} {f' : Int → Int → D} (hf : ∀ i j, DL.flat (f' i j) = some (f i j)) {x y : D} (q : asInt x fun i => asInt y fun j => P (f' i j)) : R2D K m (rI0 f) x y P := by
  refine ⟨fun F H v w k g hv hw t => ?_⟩
  obtain ⟨i, rfl, rfl, q⟩ := hv.asInt q
  obtain ⟨j, rfl, rfl, q⟩ := hw.asInt q
  exact ⟨i, j, rfl, rfl, t.at g (is_flat (hf i j)) q⟩
theorem r2_I {K : PySem.W.Frag} {C : Int → Int → Prop} {f : Int → Int → V} {f' : Int → Int → D} (hf : ∀ i j, DL.flat (f' i j) = some (f i j)) {x y : D} (q : asInt x fun i => asInt y fun j => C i j ∧ P (f' i j)) : R2D K m (rI C f) x y P := by
  refine ⟨fun F H v w k g hv hw t => ?_⟩
  obtain ⟨i, rfl, rfl, q⟩ := hv.asInt q
  obtain ⟨j, rfl, rfl, c, q⟩ := hw.asInt q
  exact ⟨i, j, rfl, rfl, c, t.at g (is_flat (hf i j)) q⟩
theorem we_add (w : WE X m env a fun x => WE X m env b fun y => asInt x fun i => asInt y fun j => P (.int (i + j))) : WE X m env (.BinOp a .Add b pos) P :=
  we_tOp (pe_op op_add pe_can pe_can) rfl (w.mono fun _ h => h.mono fun _ q => r2_I0 (fun _ _ => rfl) q)
theorem we_sub (w : WE X m env a fun x => WE X m env b fun y => asInt x fun i => asInt y fun j => P (.int (i - j))) : WE X m env (.BinOp a .Sub b pos) P :=
  we_tOp (pe_op op_sub pe_can pe_can) rfl (w.mono fun _ h => h.mono fun _ q => r2_I0 (fun _ _ => rfl) q)
theorem we_mul (w : WE X m env a fun x => WE X m env b fun y => asInt x fun i => asInt y fun j => CMulW i j ∧ P (.int (i * j))) : WE X m env (.BinOp a .Mult b pos) P :=
  we_tOp (pe_op op_mulW pe_can pe_can) rfl (w.mono fun _ h => h.mono fun _ q => r2_I (fun _ _ => rfl) q)
theorem we_muls (w : WE X m env a fun x => WE X m env b fun y => asInt x fun i => asInt y fun j => CMul i j ∧ P (.int (i * j))) : WE X m env (.BinOp a .Mult b pos) P :=
  we_tOp (pe_op op_mul pe_can pe_can) rfl (w.mono fun _ h => h.mono fun _ q => r2_I (fun _ _ => rfl) q)
theorem we_fdiv (w : WE X m env a fun x => WE X m env b fun y => asInt x fun i => asInt y fun j => CDivW i j ∧ P (.int (i / j))) : WE X m env (.BinOp a .FloorDiv b pos) P :=
  we_tOp (pe_op op_fdivW pe_can pe_can) rfl (w.mono fun _ h => h.mono fun _ q => r2_I (fun _ _ => rfl) q)
theorem we_mod (w : WE X m env a fun x => WE X m env b fun y => asInt x fun i => asInt y fun j => 0 < j ∧ P (.int (i % j))) : WE X m env (.BinOp a .Mod b pos) P :=
  we_tOp (pe_op op_mod pe_can pe_can) rfl (w.mono fun _ h => h.mono fun _ q => r2_I (fun _ _ => rfl) q)
theorem we_pow (w : WE X m env a fun x => WE X m env b fun y => asInt x fun i => asInt y fun j => CPow i j ∧ P (.int (i ^ j.toNat))) : WE X m env (.BinOp a .Pow b pos) P :=
  we_tOp (pe_op op_pow pe_can pe_can) rfl (w.mono fun _ h => h.mono fun _ q => r2_I (fun _ _ => rfl) q)
/-! #### comparisons of ints, as values and as tests -/
theorem we_lt (w : WE X m env a fun x => WE X m env b fun y => asInt x fun i => asInt y fun j => P (.bl (decide (i < j)))) : WE X m env (.Compare a [.Lt] [b] pos) P :=
  we_tOp (pe_cmpR op_lt pe_can pe_can (nomark _)) rfl (w.mono fun _ h => h.mono fun _ q => r2_I0 (fun _ _ => rfl) q)
theorem we_le (w : WE X m env a fun x => WE X m env b fun y => asInt x fun i => asInt y fun j => P (.bl (decide (i ≤ j)))) : WE X m env (.Compare a [.LtE] [b] pos) P :=
  we_tOp (pe_cmpR op_le pe_can pe_can (nomark _)) rfl (w.mono fun _ h => h.mono fun _ q => r2_I0 (fun _ _ => rfl) q)
theorem we_gt (w : WE X m env a fun x => WE X m env b fun y => asInt x fun i => asInt y fun j => P (.bl (decide (j < i)))) : WE X m env (.Compare a [.Gt] [b] pos) P :=
  we_tOp (pe_cmpR op_gt pe_can pe_can (nomark _)) rfl (w.mono fun _ h => h.mono fun _ q => r2_I0 (fun _ _ => rfl) q)
theorem we_ge (w : WE X m env a fun x => WE X m env b fun y => asInt x fun i => asInt y fun j => P (.bl (decide (j ≤ i)))) : WE X m env (.Compare a [.GtE] [b] pos) P :=
  we_tOp (pe_cmpR op_ge pe_can pe_can (nomark _)) rfl (w.mono fun _ h => h.mono fun _ q => r2_I0 (fun _ _ => rfl) q)
/-! #### arguments, displays -/
theorem wa_nil {P : List D → Prop} (h : P []) : WA X m env [] P := ⟨fun σ H0 F H k g ev t => tac pa_nil (t [] [] F H (.refl g) .nil h)⟩
theorem wa_cons {P : List D → Prop} (h : WE X m env e fun d => WA X m env es fun ds => P (d :: ds)) (hs : starEach (e :: es) X.env = (false, eval e X.env) :: starEach es X.env) : WA X m env (e :: es) P := by
  refine ⟨fun σ H0 F H k g ev t => tac (pa_cons pe_can pa_can hs) ?_⟩
  refine h.run σ H0 F H _ g ev fun v d F1 H1 s1 hv w1 => ?_
  refine w1.run σ H0 F1 H1 _ s1.good (ev.step s1) fun vs ds F2 H2 s2 hvs q => ?_
  exact (t.after s1).after s2 _ _ F2 H2 (.refl s2.good) (.cons (hv.mono s2.fs) hvs) q
theorem wl_lst {P : List D → Prop} (h : WA X m env es fun ds => ds.length ≤ 1000000 ∧ P ds) : WL X m env (.List es pos) P := by
  refine ⟨fun σ H0 F H k g ev t => tec (pe_lst pa_can) ?_⟩
  refine h.run σ H0 F H _ g ev fun vs ds F1 H1 s1 hvs q => ⟨?_, fun p hp => (t.after s1 g).laid s1.good hp hvs q.2⟩
  rw [hvs.length]
  exact Nat.le_trans q.1 (by rw [sizeLine_eq]; decide)
theorem we_tup {k0 : Nat} (h : WA X m env es fun ds => ds.length ≤ 1000000 ∧ P (.tup ds)) : WE X m env (.Tuple es k0 pos) P := by
  refine ⟨fun σ H0 F H k g ev t => tec (pe_tup pa_can) ?_⟩
  refine h.run σ H0 F H _ g ev fun vs ds F1 H1 s1 hvs q => ⟨?_, fun p hp => (t.after s1).laidT s1.good hp hvs q.2⟩
  rw [hvs.length]
  exact Nat.le_trans q.1 (by rw [sizeLine_eq]; decide)
end
end DL
set_option Elab.async false
set_option linter.all false
set_option maxRecDepth 100000
set_option autoImplicit false
/-! DL, part 3: subscripts, slices, equality, built-in calls. -/
namespace DL
open PySem L2

abbrev asSeq (d : D) (P : List D → Prop) : Prop := match d with | .lst xs => P xs | .tup xs => P xs | .nam _ xs => P xs | _ => False
theorem Is.asSeq {K : PySem.W.Frag} {F : Hp} {v : V} {d : D} (h : Is K F v d) {P : List D → Prop} (q : DL.asSeq d P) : ∃ p xs ds, v = .ref p ∧ (F p = some (.lst xs) ∨ F p = some (.tup xs)) ∧ IsAll K F xs ds ∧ P ds := by
  cases h <;> first | exact q.elim | skip
  · rename_i p xs ds h1 h2
    exact ⟨p, xs, ds, rfl, .inl h1, h2, q⟩
  · rename_i p xs ds h1 h2
    exact ⟨p, xs, ds, rfl, .inr h1, h2, q⟩
  · rename_i p xs ds h1 h2
    exact ⟨p, xs, ds, rfl, .inl h1, h2, q⟩
theorem IsAll.atI {K : PySem.W.Frag} {F : Hp} {xs : List V} {ds : List D} (h : IsAll K F xs ds) {i : Int} {d : D} (e : L2.atI ds i = some d) : ∃ v, L2.atI xs i = some v ∧ Is K F v d := by
  unfold L2.atI at e ⊢
  rw [h.length]
  cases e1 : ixN ds.length i with
  | none => rw [e1] at e; cases e
  | some j =>
    rw [e1] at e
    exact h.get e

section
variable {X : Cx} {m : Option Mem} {env : Ev} {a b c e : Expr} {es : List Expr} {P : D → Prop} {pos : Pos}
theorem we_ix (hs : PlainIx b) (w : WE X m env a fun x => WE X m env b fun y => asSeq x fun ds => asInt y fun i => ∃ d, atI ds i = some d ∧ P d) : WE X m env (.Subscript a b pos) P := by
  refine we_tOp (pe_ix (ix_list.or ix_tup) pe_can pe_can hs) rfl (w.mono fun _ h => h.mono fun _ q => ⟨fun F H v w k g hv hw t => ?_⟩)
  obtain ⟨p, xs, ds, rfl, h1, h2, q⟩ := hv.asSeq q
  obtain ⟨i, rfl, rfl, d, e, q⟩ := hw.asInt q
  obtain ⟨u, e', hu⟩ := h2.atI e
  rcases h1 with h1 | h1
  · exact .inl ⟨p, xs, i, u, rfl, rfl, .of (g.sub _ _ h1), e', t.at g hu q⟩
  · exact .inr ⟨p, xs, i, u, rfl, rfl, .of (g.sub _ _ h1), e', t.at g hu q⟩
/-- slices -/
def TOc (X : Cx) (o : Option Expr) : TO := fun σ H Q => ∀ pins s, Inv X pins σ H s → wpAny (model X.prog X.w) X.A (evalPart o X.env) (fun u s' => ∃ o H', Inv X pins σ H' s' ∧ IsPart u o ∧ Q o H') X.xe s
theorem po_can {o : Option Expr} : PO X o (TOc X o) := ⟨fun pins s _ _ _ I h => h pins s I⟩
theorem toc {o : Option Expr} {t : TO} (h : PO X o t) {σ : L2.St} {H : Hp} {Q : Option Int → Hp → Prop} (q : t σ H Q) : TOc X o σ H Q := fun pins s I => h.run pins s σ H Q I q
structure WO (X : Cx) (m : Option Mem) (env : Ev) (o : Option Expr) (P : Option Int → Prop) : Prop where
  run : ∀ σ H0 F H k, Good X.K m F H → Envs X.K m H0 F H σ env → (∀ v F' H', Step X.K m F H F' H' → P v → k v H') → TOc X o σ H k
theorem wo_none {P : Option Int → Prop} (h : P none) : WO X m env none P := ⟨fun σ H0 F H k g ev t => toc po_none (t _ F H (.refl g) h)⟩
theorem wo_some {P : Option Int → Prop} (h : WE X m env e fun d => asInt d fun i => P (some i)) : WO X m env (some e) P := by
  refine ⟨fun σ H0 F H k g ev t => toc (po_some pe_can) ?_⟩
  refine h.run σ H0 F H _ g ev fun v d F1 H1 s1 hv q => ?_
  obtain ⟨i, rfl, rfl, q⟩ := hv.asInt q
  exact ⟨i, rfl, t _ F1 H1 s1 q⟩
def cut {α : Type} (xs : List α) (lo hi : Option Int) : List α := (xs.drop (HT.sIx xs.length 0 lo)).take (HT.sIx xs.length xs.length hi - HT.sIx xs.length 0 lo)
theorem IsAll.cut {K : PySem.W.Frag} {F : Hp} {xs : List V} {ds : List D} (h : IsAll K F xs ds) (lo hi : Option Int) : IsAll K F (cutV xs lo hi) (DL.cut ds lo hi) := by
  unfold cutV DL.cut
  rw [h.length]
  exact (h.drop _).take _
theorem wl_slice {lo hi : Option Expr} {p2 : Pos} {P : List D → Prop} (w : WE X m env e fun x => WO X m env lo fun l => WO X m env hi fun u => asLst x fun ds => P (cut ds l u)) : WL X m env (.Subscript e (.Slice lo hi none p2) pos) P := by
  refine ⟨fun σ H0 F H k g ev t => tec (pe_slice sl_list pe_can po_can po_can) ?_⟩
  refine w.run σ H0 F H _ g ev fun x dx F1 H1 s1 hx w1 => ?_
  refine w1.run σ H0 F1 H1 _ s1.good (ev.step s1) fun l F2 H2 s2 w2 => ?_
  refine w2.run σ H0 F2 H2 _ s2.good ((ev.step s1).step s2) fun u F3 H3 s3 q => ?_
  obtain ⟨p, xs, ds, rfl, rfl, h1, h2, q⟩ := hx.asLst q
  have h1' := s3.good.sub _ _ (s3.fs _ _ (s2.fs _ _ h1))
  exact ⟨p, xs, rfl, .of h1', fun p' hp => (((t.after s1 g).after s2 s1.good).after s3 s2.good).laid s3.good hp (((h2.mono s2.fs).mono s3.fs).cut l u) q⟩
/-- xs + ys, xs * n -/
theorem wl_cat {P : List D → Prop} (w : WE X m env a fun x => WE X m env b fun y => asLst x fun ds => asLst y fun es => ds.length + es.length ≤ 1000000 ∧ P (ds ++ es)) : WL X m env (.BinOp a .Add b pos) P := by
  refine wl_tOp (pe_op op_cat pe_can pe_can) rfl (w.mono fun _ h => h.mono fun _ q => ⟨fun F H v w k g hv hw t => ?_⟩)
  obtain ⟨p, xs, ds, rfl, rfl, h1, h2, q⟩ := hv.asLst q
  obtain ⟨p', ys, es, rfl, rfl, h1', h2', hz, q⟩ := hw.asLst q
  refine ⟨p, p', xs, ys, rfl, rfl, g.sub _ _ h1, g.sub _ _ h1', ?_, fun r hr => t.laid g hr (h2.append h2') q⟩
  rw [h2.length, h2'.length, sizeLine_eq]
  omega
theorem isAll_rep {K : PySem.W.Frag} {F : Hp} {xs : List V} {ds : List D} (h : IsAll K F xs ds) : ∀ n : Nat, IsAll K F (List.replicate n xs).flatten (List.replicate n ds).flatten
  | 0 => .nil
  | n + 1 => by
    rw [List.replicate_succ, List.replicate_succ, List.flatten_cons, List.flatten_cons]
    exact h.append (isAll_rep h n)
theorem wl_rep {P : List D → Prop} (w : WE X m env a fun x => WE X m env b fun y => asLst x fun ds => asInt y fun i => i < 1000 ∧ -1000 < i ∧ ds.length * i.toNat ≤ 1000000 ∧ P (List.replicate i.toNat ds).flatten) : WL X m env (.BinOp a .Mult b pos) P := by
  refine wl_tOp (pe_op op_rep pe_can pe_can) rfl (w.mono fun _ h => h.mono fun _ q => ⟨fun F H v w k g hv hw t => ?_⟩)
  obtain ⟨p, xs, ds, rfl, rfl, h1, h2, q⟩ := hv.asLst q
  obtain ⟨i, rfl, rfl, i1, i2, hz, q⟩ := hw.asInt q
  refine ⟨p, i, xs, rfl, rfl, g.sub _ _ h1, by omega, by omega, ?_, fun r hr => t.laid g hr (isAll_rep h2 _) q⟩
  rw [h2.length, sizeLine_eq]
  omega
end

/-! ### equality of data -/
mutual
def D.py : D → PyData
  | .non => .none | .bl b => .bool b | .int i => .int i | .str x => .str x | .ty _ => .none | .ref _ => .none
  | .lst xs => .list (D.pyAll xs) | .tup xs => .tuple (D.pyAll xs) | .ins _ _ => .none | .nam _ _ => .none | .exc _ _ _ _ => .none | .er0 _ => .none | .er1 _ _ _ => .none | .dic _ _ => .none | .own _ _ => .none | .owd _ _ _ => .none | .owt _ => .none
def D.pyAll : List D → List PyData
  | [] => []
  | d :: ds => d.py :: D.pyAll ds
end
mutual
/-- no objects in it, at most so deep -/
def D.ok : Nat → D → Bool
  | _, .non => true | _, .bl _ => true | _, .int _ => true | _, .str x => PyData.strOk x | _, .ty _ => false | _, .ref _ => false
  | 0, .lst _ => false | 0, .tup _ => false
  | n + 1, .lst xs => D.okAll n xs | n + 1, .tup xs => D.okAll n xs | _, .ins _ _ => false | _, .nam _ _ => false | _, .exc _ _ _ _ => false | _, .er0 _ => false | _, .er1 _ _ _ => false | _, .dic _ _ => false | _, .own _ _ => false | _, .owd _ _ _ => false | _, .owt _ => false
def D.okAll : Nat → List D → Bool
  | _, [] => true
  | n, d :: ds => d.ok n && D.okAll n ds
end
mutual
theorem D.ok_lay : ∀ (n : Nat) (d : D), d.ok n = true → d.py.canLay0 = true ∧ d.py.depth ≤ n
  | n, .non, _ => by simp [D.py, PyData.canLay0, PyData.depth]
  | n, .bl b, _ => by simp [D.py, PyData.canLay0, PyData.depth]
  | n, .int b, _ => by simp [D.py, PyData.canLay0, PyData.depth]
  | n, .str x, h => by
    have h' : PyData.strOk x = true := by cases n <;> simpa [D.ok] using h
    simp [D.py, PyData.canLay0, PyData.depth, h']
  | n, .ty _, h => by cases n <;> simp [D.ok] at h
  | n, .ref _, h => by cases n <;> simp [D.ok] at h
  | n, .ins _ _, h => by cases n <;> simp [D.ok] at h
  | n, .nam _ _, h => by cases n <;> simp [D.ok] at h
  | n, .exc _ _ _ _, h => by cases n <;> simp [D.ok] at h
  | n, .er0 _, h => by cases n <;> simp [D.ok] at h
  | n, .er1 _ _ _, h => by cases n <;> simp [D.ok] at h
  | n, .dic _ _, h => by cases n <;> simp [D.ok] at h
  | n, .own _ _, h => by cases n <;> simp [D.ok] at h
  | n, .owd _ _ _, h => by cases n <;> simp [D.ok] at h
  | n, .owt _, h => by cases n <;> simp [D.ok] at h
  | 0, .lst _, h => by simp [D.ok] at h
  | 0, .tup _, h => by simp [D.ok] at h
  | n + 1, .lst xs, h => by
    obtain ⟨h1, h2⟩ := D.ok_layAll n xs (by simpa [D.ok] using h)
    simp [D.py, PyData.canLay0, PyData.depth, h1, h2]
  | n + 1, .tup xs, h => by
    obtain ⟨h1, h2⟩ := D.ok_layAll n xs (by simpa [D.ok] using h)
    simp [D.py, PyData.canLay0, PyData.depth, h1, h2]
theorem D.ok_layAll : ∀ (n : Nat) (ds : List D), D.okAll n ds = true → PyData.canLayAll0 (D.pyAll ds) = true ∧ PyData.depthAll (D.pyAll ds) ≤ n
  | n, [], _ => by simp [D.pyAll, PyData.canLayAll0, PyData.depthAll]
  | n, d :: ds, h => by
    simp only [D.okAll, Bool.and_eq_true] at h
    obtain ⟨h1, h2⟩ := D.ok_lay n d h.1
    obtain ⟨h3, h4⟩ := D.ok_layAll n ds h.2
    simp only [D.pyAll, PyData.canLayAll0, PyData.depthAll, h1, h3, Bool.and_self, true_and]
    omega
end
mutual
theorem Is.dp {K : PySem.W.Frag} {F H : Hp} (s : Same F H) : ∀ (n : Nat) (d : D) (v : V), d.ok n = true → Is K F v d → Dp K H v d.py
  | n, .non, v, _, h => by cases h; rw [D.py]; exact .non
  | n, .bl b, v, _, h => by cases h; rw [D.py]; exact .bl b
  | n, .int i, v, _, h => by cases h; rw [D.py]; exact .int i
  | n, .str x, v, _, h => by cases h; rw [D.py]; exact .str x
  | n, .ty _, v, o, h => by cases n <;> simp [D.ok] at o
  | n, .ref _, v, o, h => by cases n <;> simp [D.ok] at o
  | n, .ins _ _, v, o, h => by cases n <;> simp [D.ok] at o
  | n, .nam _ _, v, o, h => by cases n <;> simp [D.ok] at o
  | n, .exc _ _ _ _, v, o, h => by cases n <;> simp [D.ok] at o
  | n, .er0 _, v, o, h => by cases n <;> simp [D.ok] at o
  | n, .er1 _ _ _, v, o, h => by cases n <;> simp [D.ok] at o
  | n, .dic _ _, v, o, h => by cases n <;> simp [D.ok] at o
  | n, .own _ _, v, o, h => by cases n <;> simp [D.ok] at o
  | n, .owd _ _ _, v, o, h => by cases n <;> simp [D.ok] at o
  | n, .owt _, v, o, h => by cases n <;> simp [D.ok] at o
  | 0, .lst _, v, o, h => by simp [D.ok] at o
  | 0, .tup _, v, o, h => by simp [D.ok] at o
  | n + 1, .lst ds, v, o, h => by
    cases h with
    | lst h1 h2 => rw [D.py]; exact .lst (.of (s _ _ h1)) (Is.dpAll s n ds _ (by simpa [D.ok] using o) h2)
  | n + 1, .tup ds, v, o, h => by
    cases h with
    | tup h1 h2 => rw [D.py]; exact .tup (.of (s _ _ h1)) (Is.dpAll s n ds _ (by simpa [D.ok] using o) h2)
theorem Is.dpAll {K : PySem.W.Frag} {F H : Hp} (s : Same F H) : ∀ (n : Nat) (ds : List D) (vs : List V), D.okAll n ds = true → IsAll K F vs ds → DpAll K H vs (D.pyAll ds)
  | n, [], _, _, h => by cases h; rw [D.pyAll]; exact .nil
  | n, d :: ds, _, o, h => by
    simp only [D.okAll, Bool.and_eq_true] at o
    cases h with
    | cons h1 h2 => rw [D.pyAll]; exact .cons (Is.dp s n d _ o.1 h1) (Is.dpAll s n ds _ o.2 h2)
end
/-- Python's == -/
def D.eq (x y : D) : Bool := PyData.eqv x.py y.py
theorem D.shaped {d : D} (h : d.ok 64 = true) : SeqAt.shaped d.py = true := by
  obtain ⟨h1, h2⟩ := D.ok_lay 64 d h
  unfold SeqAt.shaped
  rw [h1]
  simpa using h2
section
variable {X : Cx} {m : Option Mem} {env : Ev} {a b c e : Expr} {es : List Expr} {P : D → Prop} {pos : Pos}
theorem r2_eqD {K : PySem.W.Frag} {x y : D} (q : x.ok 64 = true ∧ y.ok 64 = true ∧ P (.bl (x.eq y))) : R2D K m (rEqD K) x y P := by
  obtain ⟨o1, o2, q⟩ := q
  refine ⟨fun F H v w k g hv hw t => ?_⟩
  exact ⟨_, _, hv.dp g.sub 64 x v o1, hw.dp g.sub 64 y w o2, D.shaped o1, D.shaped o2, t.at g (.bl _) q⟩
theorem r2_neD {K : PySem.W.Frag} {x y : D} (q : x.ok 64 = true ∧ y.ok 64 = true ∧ P (.bl (!x.eq y))) : R2D K m (rNeD K) x y P := by
  obtain ⟨o1, o2, q⟩ := q
  refine ⟨fun F H v w k g hv hw t => ?_⟩
  exact ⟨_, _, hv.dp g.sub 64 x v o1, hw.dp g.sub 64 y w o2, D.shaped o1, D.shaped o2, t.at g (.bl _) q⟩
theorem we_eq (hu : X.A.units + 64 < cLine) (w : WE X m env a fun x => WE X m env b fun y => x.ok 64 = true ∧ y.ok 64 = true ∧ P (.bl (x.eq y))) : WE X m env (.Compare a [.Eq] [b] pos) P :=
  we_tOp (pe_cmpR (op_eqD hu) pe_can pe_can (nomark _)) rfl (w.mono fun _ h => h.mono fun _ q => r2_eqD q)
theorem we_ne (hu : X.A.units + 64 < cLine) (w : WE X m env a fun x => WE X m env b fun y => x.ok 64 = true ∧ y.ok 64 = true ∧ P (.bl (!x.eq y))) : WE X m env (.Compare a [.NotEq] [b] pos) P :=
  we_tOp (pe_cmpR (op_neD hu) pe_can pe_can (nomark _)) rfl (w.mono fun _ h => h.mono fun _ q => r2_neD q)
/-- of ints, without a list: quick -/
theorem we_eqI (w : WE X m env a fun x => WE X m env b fun y => asInt x fun i => asInt y fun j => P (.bl (decide (i = j)))) : WE X m env (.Compare a [.Eq] [b] pos) P := by
  refine we_tOp (pe_cmpR op_eq pe_can pe_can (nomark _)) rfl (w.mono fun _ h => h.mono fun _ q => ⟨fun F H v w k g hv hw t => ?_⟩)
  obtain ⟨i, rfl, rfl, q⟩ := hv.asInt q
  obtain ⟨j, rfl, rfl, q⟩ := hw.asInt q
  refine ⟨rfl, ?_⟩
  have : decide (V.int i = V.int j) = decide (i = j) := by simp
  rw [this]
  exact t.at g (.bl _) q
theorem we_neI (w : WE X m env a fun x => WE X m env b fun y => asInt x fun i => asInt y fun j => P (.bl (!decide (i = j)))) : WE X m env (.Compare a [.NotEq] [b] pos) P := by
  refine we_tOp (pe_cmpR op_ne pe_can pe_can (nomark _)) rfl (w.mono fun _ h => h.mono fun _ q => ⟨fun F H v w k g hv hw t => ?_⟩)
  obtain ⟨i, rfl, rfl, q⟩ := hv.asInt q
  obtain ⟨j, rfl, rfl, q⟩ := hw.asInt q
  refine ⟨rfl, ?_⟩
  have : decide (V.int i = V.int j) = decide (i = j) := by simp
  rw [this]
  exact t.at g (.bl _) q
def D.isNon : D → Bool | .non => true | _ => false
theorem Is.non_iff {K : PySem.W.Frag} {F : Hp} {v : V} {d : D} (h : Is K F v d) : decide (v = .non) = d.isNon := by
  cases h <;> simp [D.isNon]
theorem we_isN {j : Nat} {p2 : Pos} (w : WE X m env a fun x => P (.bl x.isNon)) : WE X m env (.Compare a [.Is] [.Constant .none j p2] pos) P := by
  refine ⟨fun σ H0 F H k g ev t => tec (pe_cmp (pc_isN pe_can)) ?_⟩
  refine w.run σ H0 F H _ g ev fun v d F1 H1 s1 hv q => ?_
  rw [hv.non_iff]
  exact (t.after s1).at s1.good (.bl _) q
theorem we_notN {j : Nat} {p2 : Pos} (w : WE X m env a fun x => P (.bl (!x.isNon))) : WE X m env (.Compare a [.IsNot] [.Constant .none j p2] pos) P := by
  refine ⟨fun σ H0 F H k g ev t => tec (pe_cmp (pc_notN pe_can)) ?_⟩
  refine w.run σ H0 F H _ g ev fun v d F1 H1 s1 hv q => ?_
  rw [hv.non_iff]
  exact (t.after s1).at s1.good (.bl _) q
/-! ### and, or, not, chains, tests -/
theorem we_not (w : WE X m env a fun x => asBl x fun c => P (.bl (!c))) : WE X m env (.UnaryOp .Not a pos) P := by
  refine ⟨fun σ H0 F H k g ev t => tec (pe_not pe_can) ?_⟩
  refine w.run σ H0 F H _ g ev fun v d F1 H1 s1 hv q => ?_
  obtain ⟨c, rfl, rfl, q⟩ := hv.asBl q
  exact ⟨c, rfl, (t.after s1).at s1.good (.bl _) q⟩
theorem we_one {op : BoolOp} (w : WE X m env a P) : WE X m env (.BoolOp op [a] pos) P := ⟨fun σ H0 F H k g ev t => tec (pe_one pe_can) (w.run σ H0 F H k g ev t)⟩
theorem we_and {rest : List Expr} (w : WE X m env a fun x => asBl x fun c => if c = true then WE X m env (.BoolOp .And (b :: rest) pos) P else P (.bl false)) : WE X m env (.BoolOp .And (a :: b :: rest) pos) P := by
  refine ⟨fun σ H0 F H k g ev t => tec (pe_and pe_can pe_can) ?_⟩
  refine w.run σ H0 F H _ g ev fun v d F1 H1 s1 hv q => ?_
  obtain ⟨c, rfl, rfl, q⟩ := hv.asBl q
  refine ⟨c, rfl, ?_⟩
  cases c with
  | true => exact q.run σ H0 F1 H1 _ s1.good (ev.step s1) (t.after s1)
  | false => exact (t.after s1).at s1.good (.bl _) q
theorem we_or {rest : List Expr} (w : WE X m env a fun x => asBl x fun c => if c = true then P (.bl true) else WE X m env (.BoolOp .Or (b :: rest) pos) P) : WE X m env (.BoolOp .Or (a :: b :: rest) pos) P := by
  refine ⟨fun σ H0 F H k g ev t => tec (pe_or pe_can pe_can) ?_⟩
  refine w.run σ H0 F H _ g ev fun v d F1 H1 s1 hv q => ?_
  obtain ⟨c, rfl, rfl, q⟩ := hv.asBl q
  refine ⟨c, rfl, ?_⟩
  cases c with
  | false => exact q.run σ H0 F1 H1 _ s1.good (ev.step s1) (t.after s1)
  | true => exact (t.after s1).at s1.good (.bl _) q
theorem we_ifExp (w : WT X m env c fun t => if t = true then WE X m env a P else WE X m env b P) : WE X m env (.IfExp c a b pos) P := by
  refine ⟨fun σ H0 F H k g ev t => tec (pe_ifExp pt_can pe_can pe_can) ?_⟩
  refine w.run σ H0 F H _ g ev fun d F1 H1 s1 q => ?_
  cases d with
  | true => exact q.run σ H0 F1 H1 _ s1.good (ev.step s1) (t.after s1)
  | false => exact q.run σ H0 F1 H1 _ s1.good (ev.step s1) (t.after s1)
/-- a bool's value as a test -/
theorem wt_val {P : Bool → Prop} (w : WE X m env e fun x => asBl x P) (he : ∀ whole, isTrue e X.env whole = (do let v ← whole; standAt e.pos; holding [v] (truthy v))) : WT X m env e P := by
  refine ⟨fun σ H0 F H k g ev t => ttc (pt_val pe_can he) ?_⟩
  refine w.run σ H0 F H _ g ev fun v d F1 H1 s1 hv q => ?_
  obtain ⟨c, rfl, rfl, q⟩ := hv.asBl q
  exact ⟨c, rfl, (t.after s1).at s1.good q⟩
theorem wt_not {P : Bool → Prop} (w : WT X m env a fun c => P (!c)) : WT X m env (.UnaryOp .Not a pos) P := by
  refine ⟨fun σ H0 F H k g ev t => ttc (pt_not pt_can) ?_⟩
  exact w.run σ H0 F H _ g ev fun b F1 H1 s1 q => (t.after s1).at s1.good q
theorem WW.wt {P : Bool → Prop} (w : WW X m env e P) : WT X m env e P := ⟨fun σ H0 F H k g ev t => fun pins s I => w.run σ H0 F H k g ev t _ pins s I⟩
theorem ww_and1 {P : Bool → Prop} (w : WT X m env a P) : WW X m env (.BoolOp .And [a] pos) P := ⟨fun σ H0 F H k g ev t => twc (pw_and1 pt_can) (w.run σ H0 F H k g ev t)⟩
theorem ww_or1 {P : Bool → Prop} (w : WT X m env a P) : WW X m env (.BoolOp .Or [a] pos) P := ⟨fun σ H0 F H k g ev t => twc (pw_or1 pt_can) (w.run σ H0 F H k g ev t)⟩
theorem ww_and {P : Bool → Prop} {rest : List Expr} (w : WT X m env a fun c => if c = true then WW X m env (.BoolOp .And (b :: rest) pos) P else P false) : WW X m env (.BoolOp .And (a :: b :: rest) pos) P := by
  refine ⟨fun σ H0 F H k g ev t => twc (pw_and pt_can pw_can) ?_⟩
  refine w.run σ H0 F H _ g ev fun c F1 H1 s1 q => ?_
  cases c with
  | true => exact q.run σ H0 F1 H1 _ s1.good (ev.step s1) (t.after s1)
  | false => exact (t.after s1).at s1.good q
theorem ww_or {P : Bool → Prop} {rest : List Expr} (w : WT X m env a fun c => if c = true then P true else WW X m env (.BoolOp .Or (b :: rest) pos) P) : WW X m env (.BoolOp .Or (a :: b :: rest) pos) P := by
  refine ⟨fun σ H0 F H k g ev t => twc (pw_or pt_can pw_can) ?_⟩
  refine w.run σ H0 F H _ g ev fun c F1 H1 s1 q => ?_
  cases c with
  | false => exact q.run σ H0 F1 H1 _ s1.good (ev.step s1) (t.after s1)
  | true => exact (t.after s1).at s1.good q
/-- a comparison as a test -/
theorem wt_cmp {P : Bool → Prop} {op : CmpOp} {r : R2} (ho : OpR X (compareOp op) r) (hm : behindInMarks op b = false) (w : WE X m env a fun x => WE X m env b fun y => R2D X.K m r x y fun z => asBl z P) : WT X m env (.Compare a [op] [b] pos) P := by
  refine ⟨fun σ H0 F H k g ev t => ttc (pt_cmpR ho pe_can pe_can hm) ?_⟩
  refine w.run σ H0 F H _ g ev fun x dx F1 H1 s1 hx w1 => ?_
  refine w1.run σ H0 F1 H1 _ s1.good (ev.step s1) fun y dy F2 H2 s2 hy q => ?_
  refine q.run F2 H2 x y _ s2.good (hx.mono s2.fs) hy fun z dz F3 H3 s3 hz qz => ?_
  obtain ⟨c, rfl, rfl, qz⟩ := hz.asBl qz
  exact ⟨c, rfl, (((t.after s1).after s2).after s3).at s3.good qz⟩
theorem wt_lt {P : Bool → Prop} (w : WE X m env a fun x => WE X m env b fun y => asInt x fun i => asInt y fun j => P (decide (i < j))) : WT X m env (.Compare a [.Lt] [b] pos) P :=
  wt_cmp op_lt (nomark _) (w.mono fun _ h => h.mono fun _ q => r2_I0 (f' := fun i j => .bl (decide (i < j))) (fun _ _ => rfl) q)
theorem wt_le {P : Bool → Prop} (w : WE X m env a fun x => WE X m env b fun y => asInt x fun i => asInt y fun j => P (decide (i ≤ j))) : WT X m env (.Compare a [.LtE] [b] pos) P :=
  wt_cmp op_le (nomark _) (w.mono fun _ h => h.mono fun _ q => r2_I0 (f' := fun i j => .bl (decide (i ≤ j))) (fun _ _ => rfl) q)
theorem wt_gt {P : Bool → Prop} (w : WE X m env a fun x => WE X m env b fun y => asInt x fun i => asInt y fun j => P (decide (j < i))) : WT X m env (.Compare a [.Gt] [b] pos) P :=
  wt_cmp op_gt (nomark _) (w.mono fun _ h => h.mono fun _ q => r2_I0 (f' := fun i j => .bl (decide (j < i))) (fun _ _ => rfl) q)
theorem wt_ge {P : Bool → Prop} (w : WE X m env a fun x => WE X m env b fun y => asInt x fun i => asInt y fun j => P (decide (j ≤ i))) : WT X m env (.Compare a [.GtE] [b] pos) P :=
  wt_cmp op_ge (nomark _) (w.mono fun _ h => h.mono fun _ q => r2_I0 (f' := fun i j => .bl (decide (j ≤ i))) (fun _ _ => rfl) q)
theorem wt_eq {P : Bool → Prop} (hu : X.A.units + 64 < cLine) (w : WE X m env a fun x => WE X m env b fun y => x.ok 64 = true ∧ y.ok 64 = true ∧ P (x.eq y)) : WT X m env (.Compare a [.Eq] [b] pos) P :=
  wt_cmp (op_eqD hu) (nomark _) (w.mono fun _ h => h.mono fun _ q => r2_eqD q)
theorem wt_ne {P : Bool → Prop} (hu : X.A.units + 64 < cLine) (w : WE X m env a fun x => WE X m env b fun y => x.ok 64 = true ∧ y.ok 64 = true ∧ P (!x.eq y)) : WT X m env (.Compare a [.NotEq] [b] pos) P :=
  wt_cmp (op_neD hu) (nomark _) (w.mono fun _ h => h.mono fun _ q => r2_neD q)
theorem r2_eqI {K : PySem.W.Frag} {x y : D} (q : asInt x fun i => asInt y fun j => P (.bl (decide (i = j)))) : R2D K m rEq x y P := by
  refine ⟨fun F H v w k g hv hw t => ?_⟩
  obtain ⟨i, rfl, rfl, q⟩ := hv.asInt q
  obtain ⟨j, rfl, rfl, q⟩ := hw.asInt q
  refine ⟨rfl, ?_⟩
  have : decide (V.int i = V.int j) = decide (i = j) := by simp
  rw [this]
  exact t.at g (.bl _) q
theorem r2_neI {K : PySem.W.Frag} {x y : D} (q : asInt x fun i => asInt y fun j => P (.bl (!decide (i = j)))) : R2D K m rNe x y P := by
  refine ⟨fun F H v w k g hv hw t => ?_⟩
  obtain ⟨i, rfl, rfl, q⟩ := hv.asInt q
  obtain ⟨j, rfl, rfl, q⟩ := hw.asInt q
  refine ⟨rfl, ?_⟩
  have : decide (V.int i = V.int j) = decide (i = j) := by simp
  rw [this]
  exact t.at g (.bl _) q
theorem wt_eqI {P : Bool → Prop} (w : WE X m env a fun x => WE X m env b fun y => asInt x fun i => asInt y fun j => P (decide (i = j))) : WT X m env (.Compare a [.Eq] [b] pos) P :=
  wt_cmp op_eq (nomark _) (w.mono fun _ h => h.mono fun _ q => r2_eqI q)
theorem wt_neI {P : Bool → Prop} (w : WE X m env a fun x => WE X m env b fun y => asInt x fun i => asInt y fun j => P (!decide (i = j))) : WT X m env (.Compare a [.NotEq] [b] pos) P :=
  wt_cmp op_ne (nomark _) (w.mono fun _ h => h.mono fun _ q => r2_neI q)
theorem wt_isN {P : Bool → Prop} {j : Nat} {p2 : Pos} (w : WE X m env a fun x => P x.isNon) : WT X m env (.Compare a [.Is] [.Constant .none j p2] pos) P := by
  refine ⟨fun σ H0 F H k g ev t => ttc (pt_cmp (pc_isN pe_can)) ?_⟩
  refine w.run σ H0 F H _ g ev fun v d F1 H1 s1 hv q => ?_
  rw [hv.non_iff]
  exact ⟨_, rfl, (t.after s1).at s1.good q⟩
theorem wt_notN {P : Bool → Prop} {j : Nat} {p2 : Pos} (w : WE X m env a fun x => P (!x.isNon)) : WT X m env (.Compare a [.IsNot] [.Constant .none j p2] pos) P := by
  refine ⟨fun σ H0 F H k g ev t => ttc (pt_cmp (pc_notN pe_can)) ?_⟩
  refine w.run σ H0 F H _ g ev fun v d F1 H1 s1 hv q => ?_
  rw [hv.non_iff]
  exact ⟨_, rfl, (t.after s1).at s1.good q⟩
/-- a <= b <= c over ints -/
theorem we_chain {op op' : CmpOp} {f f' : Int → Int → Bool} (ho : OpR X (compareOp op) (rI0 fun i j => .bl (f i j))) (ho' : OpR X (compareOp op') (rI0 fun i j => .bl (f' i j)))
    (hp : PE X (.Compare a [op, op'] [b, c] pos) (tChain (rI0 fun i j => .bl (f i j)) (rI0 fun i j => .bl (f' i j)) (TEc X a) (TEc X b) (TEc X c)))
    (w : WE X m env a fun x => WE X m env b fun y => asInt x fun i => asInt y fun j => if f i j = true then WE X m env c fun z => asInt z fun k => P (.bl (f' j k)) else P (.bl false)) : WE X m env (.Compare a [op, op'] [b, c] pos) P := by
  refine ⟨fun σ H0 F H k g ev t => tec hp ?_⟩
  refine w.run σ H0 F H _ g ev fun x dx F1 H1 s1 hx w1 => ?_
  refine w1.run σ H0 F1 H1 _ s1.good (ev.step s1) fun y dy F2 H2 s2 hy q => ?_
  obtain ⟨i, rfl, rfl, q1⟩ := hx.asInt q
  obtain ⟨j, rfl, rfl, q2⟩ := hy.asInt q1
  refine ⟨i, j, rfl, rfl, f i j, rfl, ?_⟩
  cases e : f i j with
  | true =>
    rw [if_pos e] at q2
    rw [if_pos rfl]
    refine q2.run σ H0 F2 H2 _ s2.good ((ev.step s1).step s2) fun z dz F3 H3 s3 hz qz => ?_
    obtain ⟨n, rfl, rfl, qz⟩ := hz.asInt qz
    exact ⟨j, n, rfl, rfl, (((t.after s1).after s2).after s3).at s3.good (.bl _) qz⟩
  | false =>
    rw [if_neg (by rw [e]; exact Bool.false_ne_true)] at q2
    rw [if_neg Bool.false_ne_true]
    exact ((t.after s1).after s2).at s2.good (.bl _) q2
end
end DL
set_option Elab.async false
set_option linter.all false
set_option maxRecDepth 100000
set_option autoImplicit false
/-! DL, part 4: calls of built-ins and of defs, statements, a def's promise. -/
namespace DL
open PySem L2

abbrev as1 (ds : List D) (P : D → Prop) : Prop := match ds with | [x] => P x | _ => False
abbrev as2 (ds : List D) (P : D → D → Prop) : Prop := match ds with | [x, y] => P x y | _ => False
theorem IsAll.as1 {K : PySem.W.Frag} {F : Hp} {vs : List V} {ds : List D} (h : IsAll K F vs ds) {P : D → Prop} (q : DL.as1 ds P) : ∃ v d, vs = [v] ∧ ds = [d] ∧ Is K F v d ∧ P d := by
  cases h with
  | nil => exact q.elim
  | cons h t =>
    cases t with
    | nil => exact ⟨_, _, rfl, rfl, h, q⟩
    | cons _ _ => exact q.elim
theorem IsAll.as2 {K : PySem.W.Frag} {F : Hp} {vs : List V} {ds : List D} (h : IsAll K F vs ds) {P : D → D → Prop} (q : DL.as2 ds P) : ∃ v w d e, vs = [v, w] ∧ ds = [d, e] ∧ Is K F v d ∧ Is K F w e ∧ P d e := by
  cases h with
  | nil => exact q.elim
  | cons h t =>
    cases t with
    | nil => exact q.elim
    | cons h2 t2 =>
      cases t2 with
      | nil => exact ⟨_, _, _, _, rfl, rfl, h, h2, q⟩
      | cons _ _ => exact q.elim

/-! ### built-ins -/
structure CD (K : PySem.W.Frag) (m : Option Mem) (r : List V → Hp → VK → Prop) (ds : List D) (P : D → Prop) : Prop where
  run : ∀ F H vs k, Good K m F H → IsAll K F vs ds → Then K m F H P k → r vs H k
structure CL (K : PySem.W.Frag) (m : Option Mem) (r : List V → Hp → VK → Prop) (ds : List D) (P : List D → Prop) : Prop where
  run : ∀ F H vs k, Good K m F H → IsAll K F vs ds → ThenL K m F H P k → r vs H k
section
variable {X : Cx} {m : Option Mem} {env : Ev} {a b c e : Expr} {es : List Expr} {P : D → Prop} {pos p : Pos} {x : Str}
theorem we_cb {r : List V → Hp → VK → Prop} {id : String} (hc : CallR X (.builtin id) r) (hg : Gl X x) (hm : X.mg x = none) (hv : bootBuiltins x = some (.builtin id)) (hn : x ≠ "__name__") (hdb : (x == ("__debug__" : Str)) = false)
    (he : starEach (e :: es) X.env = (false, eval e X.env) :: starEach es X.env) (hpl : (backTo pos (starEach es X.env)).any (·.1) = false) (w : WA X m env (e :: es) fun ds => CD X.K m r ds P) : WE X m env (.Call (.Name x p) (e :: es) [] pos) P := by
  refine ⟨fun σ H0 F H k g ev t => tec (pe_callB hc hg hm hv pa_can hn hdb he hpl) ?_⟩
  exact w.run σ H0 F H _ g ev fun vs ds F1 H1 s1 hvs q => q.run F1 H1 vs k s1.good hvs (t.after s1)
theorem we_ct {r : List V → Hp → VK → Prop} {T : String} (hc : CallR X (.type T) r) (hg : Gl X x) (hm : X.mg x = none) (hv : bootBuiltins x = some (.type T)) (hn : x ≠ "__name__") (hdb : (x == ("__debug__" : Str)) = false)
    (he : starEach (e :: es) X.env = (false, eval e X.env) :: starEach es X.env) (hpl : (backTo pos (starEach es X.env)).any (·.1) = false) (w : WA X m env (e :: es) fun ds => CD X.K m r ds P) : WE X m env (.Call (.Name x p) (e :: es) [] pos) P := by
  refine ⟨fun σ H0 F H k g ev t => tec (pe_callTy hc hg hm hv pa_can hn hdb he hpl) ?_⟩
  exact w.run σ H0 F H _ g ev fun vs ds F1 H1 s1 hvs q => q.run F1 H1 vs k s1.good hvs (t.after s1)
theorem wl_cb {r : List V → Hp → VK → Prop} {id : String} {P : List D → Prop} (hc : CallR X (.builtin id) r) (hg : Gl X x) (hm : X.mg x = none) (hv : bootBuiltins x = some (.builtin id)) (hn : x ≠ "__name__") (hdb : (x == ("__debug__" : Str)) = false)
    (he : starEach (e :: es) X.env = (false, eval e X.env) :: starEach es X.env) (hpl : (backTo pos (starEach es X.env)).any (·.1) = false) (w : WA X m env (e :: es) fun ds => CL X.K m r ds P) : WL X m env (.Call (.Name x p) (e :: es) [] pos) P := by
  refine ⟨fun σ H0 F H k g ev t => tec (pe_callB hc hg hm hv pa_can hn hdb he hpl) ?_⟩
  exact w.run σ H0 F H _ g ev fun vs ds F1 H1 s1 hvs q => q.run F1 H1 vs k s1.good hvs (t.after s1 g)
theorem wl_ct {r : List V → Hp → VK → Prop} {T : String} {P : List D → Prop} (hc : CallR X (.type T) r) (hg : Gl X x) (hm : X.mg x = none) (hv : bootBuiltins x = some (.type T)) (hn : x ≠ "__name__") (hdb : (x == ("__debug__" : Str)) = false)
    (he : starEach (e :: es) X.env = (false, eval e X.env) :: starEach es X.env) (hpl : (backTo pos (starEach es X.env)).any (·.1) = false) (w : WA X m env (e :: es) fun ds => CL X.K m r ds P) : WL X m env (.Call (.Name x p) (e :: es) [] pos) P := by
  refine ⟨fun σ H0 F H k g ev t => tec (pe_callTy hc hg hm hv pa_can hn hdb he hpl) ?_⟩
  exact w.run σ H0 F H _ g ev fun vs ds F1 H1 s1 hvs q => q.run F1 H1 vs k s1.good hvs (t.after s1 g)
theorem cd_len {K : PySem.W.Frag} {ds : List D} (q : as1 ds fun x => asSeq x fun xs => P (.int xs.length)) : CD K m (fun xs H Q => ∃ p ys, xs = [.ref p] ∧ (SqL K H p ys ∨ SqT K H p ys) ∧ Q (.int ys.length) H) ds P := by
  refine ⟨fun F H vs k g hvs t => ?_⟩
  obtain ⟨v, d, rfl, rfl, hv, q⟩ := hvs.as1 q
  obtain ⟨p, xs, ds, rfl, h1, h2, q⟩ := hv.asSeq q
  refine ⟨p, xs, rfl, ?_, ?_⟩
  · rcases h1 with h1 | h1
    · exact .inl (.of (g.sub _ _ h1))
    · exact .inr (.of (g.sub _ _ h1))
  · rw [h2.length]
    exact t.at g (.int _) q
theorem cd_abs {K : PySem.W.Frag} {ds : List D} (q : as1 ds fun x => asInt x fun i => P (.int (if i < 0 then -i else i))) : CD K m (fun xs H Q => ∃ i, xs = [.int i] ∧ Q (.int (if i < 0 then -i else i)) H) ds P := by
  refine ⟨fun F H vs k g hvs t => ?_⟩
  obtain ⟨v, d, rfl, rfl, hv, q⟩ := hvs.as1 q
  obtain ⟨i, rfl, rfl, q⟩ := hv.asInt q
  exact ⟨i, rfl, t.at g (.int _) q⟩
theorem cd_max2 {K : PySem.W.Frag} {ds : List D} (q : as2 ds fun x y => asInt x fun i => asInt y fun j => P (.int (max i j))) : CD K m (fun xs H Q => ∃ i j, xs = [.int i, .int j] ∧ Q (.int (if j > i then j else i)) H) ds P := by
  refine ⟨fun F H vs k g hvs t => ?_⟩
  obtain ⟨v, w, d, e, rfl, rfl, hv, hw, q⟩ := hvs.as2 q
  obtain ⟨i, rfl, rfl, q⟩ := hv.asInt q
  obtain ⟨j, rfl, rfl, q⟩ := hw.asInt q
  refine ⟨i, j, rfl, ?_⟩
  have : (if j > i then j else i) = max i j := by split <;> omega
  rw [this]
  exact t.at g (.int _) q
theorem cd_min2 {K : PySem.W.Frag} {ds : List D} (q : as2 ds fun x y => asInt x fun i => asInt y fun j => P (.int (min i j))) : CD K m (fun xs H Q => ∃ i j, xs = [.int i, .int j] ∧ Q (.int (if j < i then j else i)) H) ds P := by
  refine ⟨fun F H vs k g hvs t => ?_⟩
  obtain ⟨v, w, d, e, rfl, rfl, hv, hw, q⟩ := hvs.as2 q
  obtain ⟨i, rfl, rfl, q⟩ := hv.asInt q
  obtain ⟨j, rfl, rfl, q⟩ := hw.asInt q
  refine ⟨i, j, rfl, ?_⟩
  have : (if j < i then j else i) = min i j := by split <;> omega
  rw [this]
  exact t.at g (.int _) q
abbrev asNum (d : D) (P : Int → Prop) : Prop := match d with | .int i => P i | .bl b => P (if b then 1 else 0) | _ => False
theorem cd_int {K : PySem.W.Frag} {ds : List D} (q : as1 ds fun x => asNum x fun i => P (.int i)) : CD K m (fun xs H Q => (∃ i, xs = [.int i] ∧ Q (.int i) H) ∨ ∃ k, xs = [.bl k] ∧ Q (.int (if k then 1 else 0)) H) ds P := by
  refine ⟨fun F H vs k g hvs t => ?_⟩
  obtain ⟨v, d, rfl, rfl, hv, q⟩ := hvs.as1 q
  cases hv <;> first | exact q.elim | skip
  · exact .inr ⟨_, rfl, t.at g (.int _) q⟩
  · exact .inl ⟨_, rfl, t.at g (.int _) q⟩
theorem cl_list {K : PySem.W.Frag} {ds : List D} {P : List D → Prop} (q : as1 ds fun x => asSeq x P) : CL K m (fun xs H Q => ∃ p ys, xs = [.ref p] ∧ (SqL K H p ys ∨ SqT K H p ys) ∧ ∀ l, H l = none → Q (.ref l) (upd H l (.lst ys))) ds P := by
  refine ⟨fun F H vs k g hvs t => ?_⟩
  obtain ⟨v, d, rfl, rfl, hv, q⟩ := hvs.as1 q
  obtain ⟨p, xs, ds, rfl, h1, h2, q⟩ := hv.asSeq q
  refine ⟨p, xs, rfl, ?_, fun l hl => t.laid g hl h2 q⟩
  rcases h1 with h1 | h1
  · exact .inl (.of (g.sub _ _ h1))
  · exact .inr (.of (g.sub _ _ h1))
theorem cd_tuple {K : PySem.W.Frag} {ds : List D} (q : as1 ds fun x => asSeq x fun ys => P (.tup ys)) : CD K m (fun xs H Q => ∃ p ys, xs = [.ref p] ∧ ((SqL K H p ys ∧ ∀ l, H l = none → Q (.ref l) (upd H l (.tup ys))) ∨ (SqT K H p ys ∧ Q (.ref p) H))) ds P := by
  refine ⟨fun F H vs k g hvs t => ?_⟩
  obtain ⟨v, d, rfl, rfl, hv, q⟩ := hvs.as1 q
  obtain ⟨p, xs, ds, rfl, h1, h2, q⟩ := hv.asSeq q
  refine ⟨p, xs, rfl, ?_⟩
  rcases h1 with h1 | h1
  · exact .inl ⟨.of (g.sub _ _ h1), fun l hl => t.laidT g hl h2 q⟩
  · exact .inr ⟨.of (g.sub _ _ h1), t.at g (.tup h1 h2) q⟩
/-- a list of ints -/
def asInts (d : D) (P : List Int → Prop) : Prop := ∃ ns : List Int, d = .lst (ns.map D.int) ∧ P ns
theorem cd_sum {K : PySem.W.Frag} {ds : List D} (q : as1 ds fun x => asInts x fun ns => P (.int ns.sum)) : CD K m (rSum K) ds P := by
  refine ⟨fun F H vs k g hvs t => ?_⟩
  obtain ⟨v, d, rfl, rfl, hv, ns, rfl, q'⟩ := hvs.as1 q
  cases hv with
  | lst h1 h2 =>
    rename_i p xs
    obtain rfl := h2.ints
    exact ⟨p, ns, rfl, .of (g.sub _ _ h1), t.at g (.int _) q'⟩
theorem cd_max {K : PySem.W.Frag} {ds : List D} (q : as1 ds fun x => asInts x fun ns => 0 < ns.length ∧ ∀ i, i ∈ ns → (∀ y ∈ ns, y ≤ i) → P (.int i)) : CD K m (rMax K) ds P := by
  refine ⟨fun F H vs k g hvs t => ?_⟩
  obtain ⟨v, d, rfl, rfl, hv, ns, rfl, q0, q⟩ := hvs.as1 q
  cases hv with
  | lst h1 h2 =>
    rename_i p xs
    obtain rfl := h2.ints
    exact ⟨p, ns, rfl, .of (g.sub _ _ h1), q0, fun i hi hle => t.at g (.int _) (q i hi hle)⟩
theorem cd_min {K : PySem.W.Frag} {ds : List D} (q : as1 ds fun x => asInts x fun ns => 0 < ns.length ∧ ∀ i, i ∈ ns → (∀ y ∈ ns, i ≤ y) → P (.int i)) : CD K m (rMin K) ds P := by
  refine ⟨fun F H vs k g hvs t => ?_⟩
  obtain ⟨v, d, rfl, rfl, hv, ns, rfl, q0, q⟩ := hvs.as1 q
  cases hv with
  | lst h1 h2 =>
    rename_i p xs
    obtain rfl := h2.ints
    exact ⟨p, ns, rfl, .of (g.sub _ _ h1), q0, fun i hi hle => t.at g (.int _) (q i hi hle)⟩
theorem cl_sorted {K : PySem.W.Frag} {ds : List D} {P : List D → Prop} (q : as1 ds fun x => asInts x fun ns => ∀ ms : List Int, ms.Perm ns → ms.Pairwise (· ≤ ·) → P (ms.map D.int)) : CL K m (rSortedI K) ds P := by
  refine ⟨fun F H vs k g hvs t => ?_⟩
  obtain ⟨v, d, rfl, rfl, hv, ns, rfl, q'⟩ := hvs.as1 q
  cases hv with
  | lst h1 h2 =>
    rename_i p xs
    obtain rfl := h2.ints
    exact ⟨p, ns, rfl, .of (g.sub _ _ h1), fun ms p hp1 hp2 hn => t.laid g hn (isAll_ints ms) (q' ms hp1 hp2)⟩
def asBls (d : D) (P : List Bool → Prop) : Prop := ∃ bs : List Bool, d = .lst (bs.map D.bl) ∧ P bs
theorem cd_all {K : PySem.W.Frag} {ds : List D} (q : as1 ds fun x => asBls x fun bs => P (.bl (bs.all id))) : CD K m (rAll K) ds P := by
  refine ⟨fun F H vs k g hvs t => ?_⟩
  obtain ⟨v, d, rfl, rfl, hv, ns, rfl, q'⟩ := hvs.as1 q
  cases hv with
  | lst h1 h2 =>
    rename_i p xs
    obtain rfl := h2.bls
    exact ⟨p, ns, rfl, .of (g.sub _ _ h1), t.at g (.bl _) q'⟩
theorem cd_any {K : PySem.W.Frag} {ds : List D} (q : as1 ds fun x => asBls x fun bs => P (.bl (bs.any id))) : CD K m (rAny K) ds P := by
  refine ⟨fun F H vs k g hvs t => ?_⟩
  obtain ⟨v, d, rfl, rfl, hv, ns, rfl, q'⟩ := hvs.as1 q
  cases hv with
  | lst h1 h2 =>
    rename_i p xs
    obtain rfl := h2.bls
    exact ⟨p, ns, rfl, .of (g.sub _ _ h1), t.at g (.bl _) q'⟩
/-- the built-in type of plain data -/
def D.tyn : D → Option String
  | .non => some "NoneType" | .bl _ => some "bool" | .int _ => some "int" | .str _ => some "str" | .lst _ => some "list" | .tup _ => some "tuple" | _ => none
theorem Is.tyx {K : PySem.W.Frag} {F H : Hp} {v : V} {d : D} (h : Is K F v d) (s : Same F H) {n : String} (e : d.tyn = some n) : TyX K H v (.type n) := by
  cases h <;> simp only [D.tyn, Option.some.injEq, reduceCtorEq] at e
  all_goals subst e
  · exact .base .non
  · exact .base (.bl _)
  · exact .base (.int _)
  · exact .base (.str _)
  · rename_i h1 _; exact .base (.lst (s _ _ h1))
  · rename_i h1 _; exact .base (.tup (s _ _ h1))
theorem cd_isi {K : PySem.W.Frag} {ds : List D} (q : as2 ds fun x c => ∃ n T r, x.tyn = some n ∧ c = .ty T ∧ kitB n T = some r ∧ P (.bl r)) : CD K m (rIsi K) ds P := by
  refine ⟨fun F H vs k g hvs t => ?_⟩
  obtain ⟨v, w, d, e, rfl, rfl, hv, hw, n, T, r, h1, rfl, h2, q⟩ := hvs.as2 q
  cases hw
  exact ⟨v, .ty T, .type n, .type T, r, rfl, .ty T, hv.tyx g.sub h1, kit_ty h2, t.at g (.bl _) q⟩

/-! ### what a def promises, over data -/
/-- m: where the bag stands, none where no draw is made -/
def spD (K : PySem.W.Frag) (m : Option Mem) (n : Nat) (A : List D → (D → Prop) → Prop) : Sp := fun vs H Q _ => vs.length = n ∧ ∃ F ds P, Good K m F H ∧ IsAll K F vs ds ∧ A ds P ∧ Then K m F H P Q
/-- its first argument is the bag -/
def spB (K : PySem.W.Frag) (n : Nat) (A : List D → (D → Prop) → Prop) : Sp := fun vs H Q E => ∃ b : Mem, vs[0]? = some (.ref b) ∧ spD K (some b) n (fun ds P => ∃ es, ds = .ref b :: es ∧ A es P) vs H Q E
theorem we_pure {k n : Nat} {f : Addr} {fd : FuncData} {ps : List Str} {A : List D → (D → Prop) → Prop} (Fn : FnOk X.prog X.w X.K X.mg X.base (L2.CX X.prog X.w) k f fd ps (spD X.K none n A)) (hr : Room k X.A) (hg : Gl X x) (hm : X.mg x = some (.ref f)) (hk : PySem.W.keepIn X.K (.ref f) = true)
    (hb : Binds X.K fd ps []) (hdb : (x == ("__debug__" : Str)) = false) (he : starEach (e :: es) X.env = (false, eval e X.env) :: starEach es X.env) (hpl : (backTo pos (starEach es X.env)).any (·.1) = false) (w : WA X m env (e :: es) fun ds => ds.length = n ∧ A ds P) :
    WE X m env (.Call (.Name x p) (e :: es) [] pos) P := by
  refine ⟨fun σ H0 F H k g ev t => tec (pe_call Fn hr hg hm hk hb .nil passL pa_can hdb he hpl) ?_⟩
  refine w.run σ H0 F H _ g ev fun vs ds F1 H1 s1 hvs q => ?_
  rw [List.append_nil]
  exact ⟨by rw [hvs.length]; exact q.1, F1, ds, P, s1.good.any, hvs, q.2, fun v d F2 H2 s2 hv hP => t v d F2 H2 (s1.trans (s2.any s1.good)) hv hP⟩
theorem we_bag {k n : Nat} {b : Mem} {f : Addr} {fd : FuncData} {ps : List Str} {A : List D → (D → Prop) → Prop} (Fn : FnOk X.prog X.w X.K X.mg X.base (L2.CX X.prog X.w) k f fd ps (spB X.K n A)) (hr : Room k X.A) (hg : Gl X x) (hm : X.mg x = some (.ref f)) (hk : PySem.W.keepIn X.K (.ref f) = true)
    (hb : Binds X.K fd ps []) (hdb : (x == ("__debug__" : Str)) = false) (he : starEach (e :: es) X.env = (false, eval e X.env) :: starEach es X.env) (hpl : (backTo pos (starEach es X.env)).any (·.1) = false)
    (w : WA X (some b) env (e :: es) fun ds => ds.length = n ∧ ∃ es, ds = .ref b :: es ∧ A es P) : WE X (some b) env (.Call (.Name x p) (e :: es) [] pos) P := by
  refine ⟨fun σ H0 F H k g ev t => tec (pe_call Fn hr hg hm hk hb .nil passL pa_can hdb he hpl) ?_⟩
  refine w.run σ H0 F H _ g ev fun vs ds F1 H1 s1 hvs q => ?_
  rw [List.append_nil]
  obtain ⟨hl, es', rfl, hA⟩ := q
  refine ⟨b, ?_, by rw [hvs.length]; exact hl, F1, _, P, s1.good, hvs, ⟨es', rfl, hA⟩, fun v d F2 H2 s2 hv hP => t v d F2 H2 (s1.trans s2) hv hP⟩
  cases hvs with
  | cons h1 h2 => cases h1; rfl

/-! ### fields, methods -/
/-- e.f of an instance whose attributes stay -/
theorem we_fld {f : Str} (hb : attributeBase e f X.env (eval e X.env) = eval e X.env) (w : WE X m env e fun x => ∃ C fs d, x = .ins C fs ∧ Cls X.K C ∧ NoAttr X.K C f ∧ fs.lookup f = some d ∧ P d) : WE X m env (.Attribute e f pos) P := by
  refine ⟨fun σ H0 F H k g ev t => tec (pe_fld pe_can hb) ?_⟩
  refine w.run σ H0 F H _ g ev fun v d F1 H1 s1 hv q => ?_
  obtain ⟨C, fs, d', rfl, hc, hn, hl, hP⟩ := q
  cases hv with
  | ins h1 h2 h3 =>
    rename_i a dx gs
    have aux : ∀ (gs : List (Str × V)) (fs : List (Str × D)), gs.map (·.1) = fs.map (·.1) → IsAll X.K F1 (gs.map (·.2)) (fs.map (·.2)) → fs.lookup f = some d' → ∃ u, gs.lookup f = some u ∧ Is X.K F1 u d' := by
      intro gs
      induction gs with
      | nil =>
        intro fs h2 h3 hl
        cases fs with
        | nil => cases hl
        | cons _ _ => cases h2
      | cons g gs ih =>
        intro fs h2 h3 hl
        cases fs with
        | nil => cases h2
        | cons p fs =>
          obtain ⟨gn, gv⟩ := g
          obtain ⟨pn, pd⟩ := p
          rw [List.map_cons, List.map_cons] at h2 h3
          injection h2 with e1 e2
          simp only at e1
          subst e1
          cases h3 with
          | cons i1 i2 =>
            rw [List.lookup_cons] at hl ⊢
            cases hb : (f == gn) with
            | true =>
              rw [hb] at hl
              cases hl
              exact ⟨gv, rfl, i1⟩
            | false =>
              rw [hb] at hl
              exact ih fs e2 i2 hl
    obtain ⟨u, hu, iu⟩ := aux gs fs h2 h3 hl
    exact ⟨a, C, dx, gs, u, rfl, s1.good.sub _ _ h1, hc, hn, hu, (t.after s1).at s1.good iu hP⟩
end
end DL
set_option Elab.async false
set_option linter.all false
set_option maxRecDepth 100000
set_option autoImplicit false
/-! DL, part 5: comprehensions, statements, loops, a def's promise. -/
namespace DL
open PySem L2

section
variable {K : PySem.W.Frag} {m : Option Mem} {F F' H H' F1 H1 : Hp} {p : Addr}
theorem Step.noF (s : Step K m F H F' H') (hF : F p = none) (h : ∃ o, H p = some o) : F' p = none := by
  obtain ⟨o, h⟩ := h
  cases e : F' p with
  | none => rfl
  | some u => exact absurd (s.new p hF (by rw [e]; exact fun z => nomatch z)) (by rw [h]; exact fun z => nomatch z)
/-- a step, and then an object that the beginning did not know changes -/
theorem Step.mut (s : Step K m F H F' H') {o : HO} (hF : F' p = none) (hm : ¬ Touch m p) (hp : H p = none) : Step K m F H F' (upd H' p o) :=
  ⟨s.fs, s.good.mut hF hm, s.new, fun a u ha h => by rw [upd_ne (ne_of_none h hp)]; exact s.keep a u ha h⟩
end

/-! ### comprehensions: one for, no if -/
/-- the reading of an element, whatever block it stands in -/
def TBc (X : Cx) (scope : Scope) (e : Expr) : TE := fun σ H Q => ∀ (s : Shared) (H0 : Hp) (C : Addr) (cl : List (Str × Addr)) (fp : List Addr), TEc (X.blk s H0 scope (compEnvC scope cl C X.env) fp) e σ H Q
/-- an element's data, whatever block it stands in -/
structure WB (X : Cx) (m : Option Mem) (env : Ev) (scope : Scope) (e : Expr) (P : D → Prop) : Prop where
  at_ : ∀ (s : Shared) (H0 : Hp) (C : Addr) (cl : List (Str × Addr)) (fp : List Addr), WE (X.blk s H0 scope (compEnvC scope cl C X.env) fp) m env e P
section
variable {X : Cx} {m : Option Mem} {env : Ev} {a b c e elt iter tg : Expr} {es : List Expr} {pos p2 : Pos} {scope : Scope} {x : Str} {t : Nat}
/-- what is made so far: the list at L -/
def CompI (K : PySem.W.Frag) (m : Option Mem) (F1 H1 : Hp) (L : Addr) (Pi : Nat → D → Prop) (i : Nat) (H : Hp) : Prop :=
  ∃ F' acc ds, Step K m F1 H1 F' H ∧ F' L = none ∧ H L = some (.lst acc) ∧ IsAll K F' acc ds ∧ ds.length = i ∧ ∀ (j : Nat) (d : D), ds[j]? = some d → Pi j d
theorem comp_turn {σ : L2.St} {H0 F1 H1 : Hp} {L : Addr} {Pi : Nat → D → Prop} {i : Nat} {H : Hp} {v : V} {d : D} (ev : Envs X.K m H0 F1 H1 σ env) (hL : H1 L = none) (hm : ¬ Touch m L) (hi : i < 1000000) (I : CompI X.K m F1 H1 L Pi i H) (hv : ∀ F', Same F1 F' → Is X.K F' v d)
    (w : WB X m ((env.set t none).set t (some (.frz d))) scope elt (Pi i)) :
    gName t v (wipe σ [t]) H fun σ2 H2 => wipe σ2 [t] = wipe σ [t] ∧ tYes σ2 H2 fun b H3 => if b = true then TBc X scope elt σ2 H3 fun y H4 => ∃ acc, H4 L = some (.lst acc) ∧ acc.length < sizeLine ∧ CompI X.K m F1 H1 L Pi (i + 1) (upd H4 L (.lst (acc ++ [y]))) else CompI X.K m F1 H1 L Pi (i + 1) H3 := by
  obtain ⟨F', acc, ds, s1, hF, hL2, ha, hl, hP⟩ := I
  unfold gName
  refine ⟨by show ((σ.set t none).set t (some v)).set t none = σ.set t none; rw [List.set_set, List.set_set], ?_⟩
  unfold tYes
  dsimp only
  rw [if_pos rfl]
  intro s H0' C cl fp
  have ev2 : Envs X.K m H0 F' H ((σ.set t none).set t (some v)) ((env.set t none).set t (some (.frz d))) := ((ev.step s1).wipe).frz (hv F' s1.fs)
  refine (w.at_ s H0' C cl fp).run _ H0 F' H _ s1.good ev2 fun y dy F2 H2 s2 hy hPy => ?_
  have hL3 : H2 L = some (.lst acc) := s2.keep L _ hm hL2
  have hF2 := s2.noF hF ⟨_, hL2⟩
  refine ⟨acc, hL3, ?_, F2, acc ++ [y], ds ++ [dy], (s1.trans s2).mut hF2 hm hL, hF2, upd_same, (ha.mono s2.fs).append (.cons hy .nil), ?_, fun j e he => ?_⟩
  · rw [ha.length, hl, sizeLine_eq]; omega
  · rw [List.length_append, hl]; rfl
  · rcases Nat.lt_or_ge j ds.length with hj | hj
    · rw [List.getElem?_append_left hj] at he
      exact hP j e he
    · rw [List.getElem?_append_right hj] at he
      have e0 : j - ds.length = 0 := by
        rcases Nat.eq_zero_or_pos (j - ds.length) with z | z
        · exact z
        · rw [List.getElem?_eq_none (by simp; omega)] at he; cases he
      rw [e0] at he
      have : j = i := by omega
      subst this
      cases he
      exact hPy
theorem comp_start {σ : L2.St} {F1 H1 : Hp} {L : Addr} {Pi : Nat → D → Prop} (g : Good X.K m F1 H1) (hL : H1 L = none) : CompI X.K m F1 H1 L Pi 0 (upd H1 L (.lst [])) :=
  ⟨F1, [], [], g.fresh hL, g.noF hL, upd_same, .nil, rfl, fun j d h => by simp at h⟩
theorem comp_end {F H F1 H1 : Hp} {L : Addr} {Pi : Nat → D → Prop} {n : Nat} {H2 : Hp} {P : List D → Prop} {k : VK} (g : Good X.K m F H) (s : Step X.K m F H F1 H1) (hL : H1 L = none) (I : CompI X.K m F1 H1 L Pi n H2) (t : ThenL X.K m F H P k)
    (h : ∀ es : List D, es.length = n → (∀ (i : Nat) (e : D), es[i]? = some e → Pi i e) → P es) : k (.ref L) H2 := by
  obtain ⟨F', acc, ds, s1, hF, hL2, ha, hl, hP⟩ := I
  exact t L acc ds F' H2 (fresh_before s g hL) hF (s.trans s1) hL2 ha (h ds hl hP)
/-- over a list or a tuple -/
theorem wl_comp (t : Nat) (own : List (Str × Nat)) (hown : own.map (·.2) = [t]) (hc : X.calm = true) (hN : X.N.Nodup) (ok : BlkOk X.N X.env.scope scope own) (hg : ∀ (s : Shared) (H : Hp) (C : Addr) (cl : List (Str × Addr)) (fp : List Addr), PG (X.blk s H scope (compEnvC scope cl C X.env) fp) tg (gName t))
    (hs : ∀ x, foldedSetIterable iter X.env x = pure x) {P : List D → Prop}
    (w : WE X m env iter fun x => asLst x fun ds => ds.length ≤ 1000000 ∧ ∃ Pi : Nat → D → Prop, (∀ (i : Nat) (d : D), ds[i]? = some d → WB X m ((env.set t none).set t (some (.frz d))) scope elt (Pi i)) ∧ ∀ es : List D, es.length = ds.length → (∀ (i : Nat) (e : D), es[i]? = some e → Pi i e) → P es) :
    WL X m env (.ListComp elt [⟨tg, iter, [], 0⟩] scope pos) P := by
  refine ⟨fun σ H0 F H k g ev th => tec (pe_lc (te := TBc X scope elt) hc hN (pi_list pe_can) ok hg (fun _ _ _ _ _ => pts_nil) (fun s H C cl fp => ⟨fun pins s2 σ2 H2 Q I h => h s H C cl fp pins s2 I⟩) hs) ?_⟩
  refine w.run σ H0 F H _ g ev fun v d F1 H1 s1 hv q => ?_
  obtain ⟨p, xs, ds, rfl, rfl, h1, h2, hz, Pi, hP, hQ⟩ := hv.asLst q
  have h1' := s1.good.sub _ _ h1
  refine ⟨p, rfl, ⟨xs, .of h1'⟩, fun L hL => ?_⟩
  rw [hown]
  have hpL : p ≠ L := ne_of_none h1' hL
  refine lc_list (K := X.K) (a := p) (xs := xs) (CompI X.K m F1 H1 L Pi) (comp_start (σ := σ) s1.good hL) (fun i H2 hi I => ?_) (fun i v H2 hi I => ?_) fun H2 I => ?_
  · obtain ⟨F', acc, es, s2, _⟩ := I
    exact .of (s2.good.sub _ _ (s2.fs _ _ h1))
  · obtain ⟨d, hd, iv⟩ := h2.getV hi
    have hlt : i < ds.length := (List.getElem?_eq_some_iff.mp hd).1
    exact comp_turn (ev.step s1) hL (s1.good.notm hL) (by omega) I (fun F' sm => iv.mono sm) (hP i d hd)
  · exact comp_end g s1 hL (by rw [← h2.length]; exact I) th hQ
/-- over range(n), range(a, b) -/
theorem wl_compR (t : Nat) (own : List (Str × Nat)) (hown : own.map (·.2) = [t]) (hc : X.calm = true) (hN : X.N.Nodup) (ok : BlkOk X.N X.env.scope scope own) (hg : ∀ (s : Shared) (H : Hp) (C : Addr) (cl : List (Str × Addr)) (fp : List Addr), PG (X.blk s H scope (compEnvC scope cl C X.env) fp) tg (gName t))
    (hrg : Gl X "range") (hrm : X.mg "range" = none) (hst : starEach [a] X.env = [(false, eval a X.env)]) {pr : Pos}
    (hs : ∀ x, foldedSetIterable (.Call (.Name "range" p2) [a] [] pr) X.env x = pure x) {P : List D → Prop}
    (w : WE X m env a fun x => asInt x fun n => (-1000000 ≤ n ∧ n ≤ 1000000) ∧ ∃ Pi : Nat → D → Prop, (∀ (i : Nat), (i : Int) < n → WB X m ((env.set t none).set t (some (.frz (.int i)))) scope elt (Pi i)) ∧ ∀ es : List D, es.length = n.toNat → (∀ (i : Nat) (e : D), es[i]? = some e → Pi i e) → P es) :
    WL X m env (.ListComp elt [⟨tg, .Call (.Name "range" p2) [a] [] pr, [], 0⟩] scope pos) P := by
  refine ⟨fun σ H0 F H k g ev th => tec (pe_lc (te := TBc X scope elt) hc hN (pi_range1 hrg hrm (pa_cons pe_can pa_nil hst) hst) ok hg (fun _ _ _ _ _ => pts_nil) (fun s H C cl fp => ⟨fun pins s2 σ2 H2 Q I h => h s H C cl fp pins s2 I⟩) hs) ?_⟩
  refine w.run σ H0 F H _ g ev fun v d F1 H1 s1 hv q => ?_
  obtain ⟨n, rfl, rfl, hz, Pi, hP, hQ⟩ := hv.asInt q
  refine ⟨n, rfl, by omega, by omega, fun L hL => ?_⟩
  rw [hown]
  refine lc_range (CompI X.K m F1 H1 L Pi) (comp_start (σ := σ) s1.good hL) (fun i H2 hi I => ?_) fun H2 I => ?_
  · have hlt : (i : Int) < n := by omega
    have e0 : ((0 : Int) + (i : Int)) = (i : Int) := by omega
    rw [e0]
    exact comp_turn (ev.step s1) hL (s1.good.notm hL) (by omega) I (fun F' sm => .int _) (hP i hlt)
  · exact comp_end g s1 hL I th hQ
end
end DL
set_option Elab.async false
set_option linter.all false
set_option maxRecDepth 100000
set_option autoImplicit false
/-! DL, part 6: statements, loops, a def's promise. -/
namespace DL
open PySem L2

def TSc (X : Cx) (st : Stmt) : TS := fun De σ H => ∀ pins s, Inv X pins σ H s → wpAny (model X.prog X.w) X.A (exec st X.env) (SP X pins De) X.xe s
theorem ps_can {X : Cx} {st : Stmt} : PS X st (TSc X st) := ⟨fun pins s _ _ _ I h => h pins s I⟩
theorem tsc {X : Cx} {st : Stmt} {t : TS} (h : PS X st t) {De : Ends} {σ : L2.St} {H : Hp} (q : t De σ H) : TSc X st De σ H := fun pins s I => h.run pins s σ H De I q
def TSsc (X : Cx) (st : List Stmt) : TS := fun De σ H => ∀ pins s, Inv X pins σ H s → wpAny (model X.prog X.w) X.A (execs st X.env) (SP X pins De) X.xe s
theorem pss_can {X : Cx} {st : List Stmt} : PSs X st (TSsc X st) := ⟨fun pins s _ _ _ I h => h pins s I⟩
theorem tssc {X : Cx} {st : List Stmt} {t : TS} (h : PSs X st t) {De : Ends} {σ : L2.St} {H : Hp} (q : t De σ H) : TSsc X st De σ H := fun pins s I => h.run pins s σ H De I q

/-- what is wanted behind a statement, over data; ex: of an exception (its class, its fields) -/
structure DEnds where
  nx : Ev → Prop
  rt : D → Ev → Prop
  bk : Ev → Prop := fun _ => False
  ct : Ev → Prop := fun _ => False
  ex : Addr → List (Str × D) → Ev → Prop := fun _ _ _ => False
  /-- a return of what is the frame's own -/
  ro : D → Ev → Prop := fun _ _ => False
structure Sta (K : PySem.W.Frag) (m : Option Mem) (F0 H0 Fl F H : Hp) (σ : L2.St) (env : Ev) : Prop where
  step : Step K m F0 H0 F H
  env : Envs K m H0 F H σ env
  fl : Same Fl F
/-- an exception's own dict -/
def ExIs (K : PySem.W.Frag) (H0 F H : Hp) (d : Option Addr) (fs : List (Str × D)) : Prop := match d with
  | none => fs = []
  | some a => fs ≠ [] ∧ H0 a = none ∧ F a = none ∧ ∃ gs, H a = some (.xd gs) ∧ gs.map (·.1) = fs.map (·.1) ∧ IsAll K F (gs.map (·.2)) (fs.map (·.2))
theorem Step.none0 {K : PySem.W.Frag} {m : Option Mem} {F0 H0 F H : Hp} (s : Step K m F0 H0 F H) {a : Addr} (h : H a = none) : H0 a = none := by
  cases e : H0 a with
  | none => rfl
  | some o =>
    by_cases hm : Touch m a
    · obtain ⟨u, hu⟩ := s.good.touch hm
      rw [hu] at h; cases h
    · rw [s.keep a o hm e] at h; cases h
theorem ExIs.imp {K : PySem.W.Frag} {H0 H1 F H : Hp} {d : Option Addr} {fs : List (Str × D)} (h : ExIs K H1 F H d fs) (i : ∀ a, H1 a = none → (∃ gs, H a = some (.xd gs)) → H0 a = none) : ExIs K H0 F H d fs := by
  cases d with
  | none => exact h
  | some a =>
    obtain ⟨h1, h2, h3, gs, h4, h5⟩ := h
    exact ⟨h1, i a h2 ⟨gs, h4⟩, h3, gs, h4, h5⟩
theorem ExIs.back {K : PySem.W.Frag} {m : Option Mem} {F0 H0 F1 H1 F H : Hp} {d : Option Addr} {fs : List (Str × D)} (h : ExIs K H1 F H d fs) (s : Step K m F0 H0 F1 H1) : ExIs K H0 F H d fs := h.imp fun a z _ => s.none0 z
structure EndsOk (X : Cx) (m : Option Mem) (F0 H0 Fl : Hp) (R : DEnds) (De : Ends) (W : WX) : Prop where
  nx : ∀ σ env F H, Sta X.K m F0 H0 Fl F H σ env → R.nx env → De.nx σ H
  rt : ∀ v d σ env F H, Sta X.K m F0 H0 Fl F H σ env → Is X.K F v d → R.rt d env → De.rt v H
  bk : ∀ σ env F H, Sta X.K m F0 H0 Fl F H σ env → R.bk env → De.bk σ H
  ct : ∀ σ env F H, Sta X.K m F0 H0 Fl F H σ env → R.ct env → De.ct σ H
  tk : Takes X W
  ex : ∀ σ env F H C d fs, Sta X.K m F0 H0 Fl F H σ env → ExIs X.K H0 F H d fs → R.ex C fs env → W (.ref C) d σ H
  ro : ∀ v d σ env F H, Sta X.K m F0 H0 Fl F H σ env → Own X.K (Fro m H0 F) F H v d → d.ads.Nodup → R.ro d env → De.rt v H
structure WS (X : Cx) (m : Option Mem) (env : Ev) (st : Stmt) (R : DEnds) : Prop where
  run : ∀ σ F0 H0 Fl F H De W, Sta X.K m F0 H0 Fl F H σ env → EndsOk X m F0 H0 Fl R De W → TSc X st De σ H
structure WSs (X : Cx) (m : Option Mem) (env : Ev) (st : List Stmt) (R : DEnds) : Prop where
  run : ∀ σ F0 H0 Fl F H De W, Sta X.K m F0 H0 Fl F H σ env → EndsOk X m F0 H0 Fl R De W → TSsc X st De σ H

section
variable {X : Cx} {m : Option Mem} {env : Ev} {a b c e iter : Expr} {es : List Expr} {pos p2 p3 : Pos} {R : DEnds} {st : Stmt} {rest body els : List Stmt} {x : Str}
theorem Sta.good {K : PySem.W.Frag} {F0 H0 Fl F H : Hp} {σ : L2.St} (s : Sta K m F0 H0 Fl F H σ env) : Good K m F H := s.step.good
theorem Sta.after {K : PySem.W.Frag} {F0 H0 Fl F H F' H' : Hp} {σ : L2.St} (s : Sta K m F0 H0 Fl F H σ env) (t : Step K m F H F' H') : Sta K m F0 H0 Fl F' H' σ env := ⟨s.step.trans t, s.env.step t, s.fl.trans t.fs⟩
theorem Sta.floor {K : PySem.W.Frag} {F0 H0 Fl Fl' F H : Hp} {σ : L2.St} (s : Sta K m F0 H0 Fl F H σ env) (h : Same Fl' Fl) : Sta K m F0 H0 Fl' F H σ env := ⟨s.step, s.env, h.trans s.fl⟩
theorem EndsOk.of_nx {F0 H0 Fl : Hp} {De : Ends} {W : WX} {R' : DEnds} (o : EndsOk X m F0 H0 Fl R De W) {N : L2.St → Hp → Prop} (h : ∀ σ env F H, Sta X.K m F0 H0 Fl F H σ env → R'.nx env → N σ H)
    (e1 : R'.rt = R.rt) (e2 : R'.bk = R.bk) (e3 : R'.ct = R.ct) (e4 : R'.ex = R.ex) (e5 : R'.ro = R.ro) : EndsOk X m F0 H0 Fl R' { De with nx := N } W := by
  obtain ⟨n', r', b', c', x', y'⟩ := R'
  simp only at e1 e2 e3 e4 e5
  subst e1 e2 e3 e4 e5
  exact ⟨h, o.rt, o.bk, o.ct, o.tk, o.ex, o.ro⟩
theorem wss_nil (h : R.nx env) : WSs X m env [] R := ⟨fun σ F0 H0 Fl F H De W s o => tssc pss_nil (o.nx σ env F H s h)⟩
theorem wss_cons (h : WS X m env st { R with nx := fun env' => WSs X m env' rest R }) : WSs X m env (st :: rest) R := by
  refine ⟨fun σ F0 H0 Fl F H De W s o => tssc (pss_cons ps_can pss_can) ?_⟩
  show TSc X st { De with nx := TSsc X rest De } σ H
  refine h.run σ F0 H0 Fl F H _ W s (o.of_nx (fun σ' env' F' H' s' w => w.run σ' F0 H0 Fl F' H' De W s' o) rfl rfl rfl rfl rfl)
theorem wss_one (h : WS X m env st R) : WSs X m env [st] R := wss_cons ⟨fun σ F0 H0 Fl F H De W s o => h.run σ F0 H0 Fl F H De W s ⟨fun σ' env' F' H' s' w => o.nx σ' env' F' H' s' (wss_nil w), o.rt, o.bk, o.ct, o.tk, o.ex, o.ro⟩ |> fun z => z⟩

theorem ws_pass (h : R.nx env) : WS X m env (.Pass pos) R := ⟨fun σ F0 H0 Fl F H De W s o => tsc ps_pass (o.nx σ env F H s h)⟩
theorem ws_break (h : R.bk env) : WS X m env (.Break pos) R := ⟨fun σ F0 H0 Fl F H De W s o => tsc ps_break (o.bk σ env F H s h)⟩
theorem ws_continue (h : R.ct env) : WS X m env (.Continue pos) R := ⟨fun σ F0 H0 Fl F H De W s o => tsc ps_continue (o.ct σ env F H s h)⟩
theorem ws_ret (h : WE X m env e fun d => R.rt d env) : WS X m env (.Return (some e) pos) R := by
  refine ⟨fun σ F0 H0 Fl F H De W s o => tsc (ps_ret pe_can) ?_⟩
  exact h.run σ H0 F H _ s.good s.env fun v d F1 H1 s1 hv q => o.rt v d σ env F1 H1 (s.after s1) hv q
theorem ws_retN (h : R.rt .non env) : WS X m env (.Return none pos) R := ⟨fun σ F0 H0 Fl F H De W s o => tsc ps_retN (o.rt .non .non σ env F H s .non h)⟩
/-- return of the frame's own list -/
theorem ws_retOwn (i : Nat) {q0 : Addr} {ds : List D} (hN : X.N[i]? = some x) (hv : Vis X.env.scope x) (hd : (x == ("__debug__" : Str)) = false) (hcd : (x == ("__classdict__" : Str)) = false) (he : env[i]? = some (some (.own q0 (.lst ds)))) (h : R.rt (.lst ds) (env.set i (some (.frz (.lst ds))))) : WS X m env (.Return (some (.Name x p2)) pos) R := by
  refine ⟨fun σ F0 H0 Fl F H De W s o => tsc (ps_ret (pe_var hN hv hd hcd)) ?_⟩
  obtain ⟨xs, hσ, hm, hF, h0, hH, ha, g', ev'⟩ := s.env.freeze s.good he
  refine ⟨.ref q0, hσ, o.rt _ _ σ _ (upd F q0 (.lst xs)) H ⟨⟨s.step.fs.trans (same_upd hF), g', fun q h1 h2 => ?_, s.step.keep⟩, ev', s.fl.trans (same_upd hF)⟩ (.lst upd_same (ha.mono (same_upd hF))) h⟩
  by_cases hq : q = q0
  · subst hq; exact h0
  · rw [upd_ne hq] at h2; exact s.step.new q h1 h2
/-- the frame's own list at slot i stays from now on -/
theorem wss_freeze (i : Nat) {q0 : Addr} {ds : List D} (he : env[i]? = some (some (.own q0 (.lst ds)))) (h : WSs X m (env.set i (some (.frz (.lst ds)))) rest R) : WSs X m env rest R := by
  refine ⟨fun σ F0 H0 Fl F H De W s o => ?_⟩
  obtain ⟨xs, hσ, hm, hF, h0, hH, ha, g', ev'⟩ := s.env.freeze s.good he
  refine h.run σ F0 H0 Fl (upd F q0 (.lst xs)) H De W ⟨⟨s.step.fs.trans (same_upd hF), g', fun q h1 h2 => ?_, s.step.keep⟩, ev', s.fl.trans (same_upd hF)⟩ o
  by_cases hq : q = q0
  · subst hq; exact h0
  · rw [upd_ne hq] at h2; exact s.step.new q h1 h2
theorem ws_expr (h : WE X m env e fun _ => R.nx env) (hs : swapsWith e none pos.line X.env = pure false) : WS X m env (.Expr e pos) R := by
  refine ⟨fun σ F0 H0 Fl F H De W s o => tsc (ps_expr pe_can hs) ?_⟩
  exact h.run σ H0 F H _ s.good s.env fun v d F1 H1 s1 hv q => o.nx σ env F1 H1 (s.after s1) q
theorem ws_if (h : WT X m env c fun t => if t = true then WSs X m env body R else WSs X m env els R) : WS X m env (.If c body els pos) R := by
  refine ⟨fun σ F0 H0 Fl F H De W s o => tsc (ps_if pt_can pss_can pss_can) ?_⟩
  refine h.run σ H0 F H _ s.good s.env fun t F1 H1 s1 q => ?_
  cases t with
  | true => exact q.run σ F0 H0 Fl F1 H1 De W (s.after s1) o
  | false => exact q.run σ F0 H0 Fl F1 H1 De W (s.after s1) o
theorem ws_set (i : Nat) (hN : X.N.Nodup) (hi : X.N[i]? = some x) (hx : Loc X.env.scope x) (hf : X.fn x = true ∨ X.env.scope.names.lookup x = some .local) (hs : swapsWith e (some (.Name x p2)) pos.line X.env = pure false)
    (h : WE X m env e fun d => R.nx (env.set i (some (.frz d)))) : WS X m env (.Assign [.Name x p2] e pos) R := by
  refine ⟨fun σ F0 H0 Fl F H De W s o => tsc (ps_set hN hi hx pe_can hs hf) ?_⟩
  refine h.run σ H0 F H _ s.good s.env fun v d F1 H1 s1 hv q => ?_
  exact o.nx _ _ F1 H1 ⟨s.step.trans s1, (s.env.step s1).frz hv, s.fl.trans s1.fs⟩ q
/-- name = a new list that this frame will change -/
theorem ws_setL (i : Nat) (hN : X.N.Nodup) (hi : X.N[i]? = some x) (hx : Loc X.env.scope x) (hf : X.fn x = true ∨ X.env.scope.names.lookup x = some .local) (hs : swapsWith e (some (.Name x p2)) pos.line X.env = pure false)
    (h : WL X m env e fun ds => ∀ p, R.nx (env.set i (some (.own p (.lst ds))))) : WS X m env (.Assign [.Name x p2] e pos) R := by
  refine ⟨fun σ F0 H0 Fl F H De W s o => tsc (ps_set hN hi hx pe_can hs hf) ?_⟩
  refine h.run σ H0 F H _ s.good s.env fun p xs ds F1 H1 hp hF s1 hH ha q => ?_
  have h0 : H0 p = none := by
    cases e : H0 p with
    | none => rfl
    | some u => rw [s.step.keep p u (s.good.notm hp) e] at hp; cases hp
  exact o.nx _ _ F1 H1 ⟨s.step.trans s1, s.env.ownL s.good s1 hp h0 hF hH (.ofL ha), s.fl.trans s1.fs⟩ (q p)
/-- x.append(e), x a list of the frame's own -/
theorem ws_append (i : Nat) {p4 : Pos} (hN : X.N[i]? = some x) (hv : Vis X.env.scope x) (hd : (x == ("__debug__" : Str)) = false) (hcd : (x == ("__classdict__" : Str)) = false)
    (hbm : ∀ {to : TE} {t : TA}, PE X (.Name x p2) to → PA X [e] t → PE X (.Call (.Attribute (.Name x p2) "append" p3) [e] [] p4) (tBM X.K "list" rAppend to t)) (hst : starEach [e] X.env = [(false, eval e X.env)])
    (hs : swapsWith (.Call (.Attribute (.Name x p2) "append" p3) [e] [] p4) none pos.line X.env = pure false)
    {q0 : Addr} {ds : List D} (hds : env[i]? = some (some (.own q0 (.lst ds)))) (hl : ds.length < 1000000) (h : WE X m env e fun d => R.nx (env.set i (some (.own q0 (.lst (ds ++ [d])))))) : WS X m env (.Expr (.Call (.Attribute (.Name x p2) "append" p3) [e] [] p4) pos) R := by
  refine ⟨fun σ F0 H0 Fl F H De W s o => tsc (ps_expr (hbm (pe_var hN hv hd hcd) (pa_cons pe_can pa_nil hst)) hs) ?_⟩
  obtain ⟨v, hσ, ho, rfl, hm, hF, h0, hH, xs, rfl, ha⟩ := s.env.at_ i _ hds
  refine ⟨.ref q0, hσ, .inl ⟨rfl, xs, .of hH⟩, ?_⟩
  refine h.run σ H0 F H _ s.good s.env fun v d F1 H1 s1 hv q => ?_
  have hH1 : H1 q0 = some (.lst xs) := s1.keep q0 _ hm hH
  have hF1 := s1.noF hF ⟨_, hH⟩
  refine ⟨q0, xs, v, rfl, rfl, hH1, by rw [ha.length, sizeLine_eq]; omega, ?_⟩
  exact o.nx _ _ F1 _ ⟨(s.step.trans s1).mut hF1 hm h0, (s.env.step s1).mut hds (.ofL ((ha.mono s1.fs).append (.cons hv .nil))), s.fl.trans s1.fs⟩ q
end


/-! ### a list of the frame's own, read and changed -/
section
variable {X : Cx} {m : Option Mem} {env : Ev} {a b c e iter : Expr} {es : List Expr} {pos p2 p3 p4 : Pos} {R : DEnds} {x : Str} {P : D → Prop}
/-- x[i] of it -/
theorem we_ixOwn (i : Nat) {q0 : Addr} {ds : List D} (hN : X.N[i]? = some x) (hv : Vis X.env.scope x) (hd : (x == ("__debug__" : Str)) = false) (hcd : (x == ("__classdict__" : Str)) = false) (hds : env[i]? = some (some (.own q0 (.lst ds)))) (hs : PlainIx b)
    (h : WE X m env b fun y => asInt y fun j => ∃ d, atI ds j = some d ∧ P d) : WE X m env (.Subscript (.Name x p2) b pos) P := by
  refine ⟨fun σ H0 F H k g ev t => tec (pe_ix ix_list (pe_var hN hv hd hcd) pe_can hs) ?_⟩
  obtain ⟨v, hσ, ho, rfl, hm, hF, h0, hH, xs, rfl, ha⟩ := ev.at_ i _ hds
  refine ⟨.ref q0, hσ, ?_⟩
  refine h.run σ H0 F H _ g ev fun v d F1 H1 s1 hv q => ?_
  obtain ⟨j, rfl, rfl, d, e, q⟩ := hv.asInt q
  obtain ⟨u, e', hu⟩ := ha.atI e
  exact ⟨q0, xs, j, u, rfl, rfl, .of (s1.keep q0 _ hm hH), e', (t.after s1).at s1.good (hu.mono s1.fs) q⟩
/-- len(x) -/
theorem we_lenOwn (i : Nat) {q0 : Addr} {ds : List D} (hN : X.N[i]? = some x) (hv : Vis X.env.scope x) (hd : (x == ("__debug__" : Str)) = false) (hcd : (x == ("__classdict__" : Str)) = false) (hds : env[i]? = some (some (.own q0 (.lst ds))))
    (hg : Gl X "len") (hm : X.mg "len" = none) (he : starEach [.Name x p2] X.env = (false, eval (.Name x p2) X.env) :: starEach [] X.env) (hpl : (backTo pos (starEach [] X.env)).any (·.1) = false) (h : P (.int ds.length)) : WE X m env (.Call (.Name "len" p3) [.Name x p2] [] pos) P := by
  refine ⟨fun σ H0 F H k g ev t => tec (pe_callB call_len_seq hg hm PySem.boot_len (pa_cons (pe_var hN hv hd hcd) pa_nil he) (by decide) (by decide) he hpl) ?_⟩
  obtain ⟨v, hσ, ho, rfl, hm', hF, h0, hH, xs, rfl, ha⟩ := ev.at_ i _ hds
  refine ⟨.ref q0, hσ, q0, xs, rfl, .inl (.of hH), ?_⟩
  rw [ha.length]
  exact t.at g (.int _) h
/-- x[i] = e -/
theorem ws_setIx (i : Nat) {q0 : Addr} {ds : List D} (hN : X.N[i]? = some x) (hv : Vis X.env.scope x) (hd : (x == ("__debug__" : Str)) = false) (hcd : (x == ("__classdict__" : Str)) = false) (hds : env[i]? = some (some (.own q0 (.lst ds))))
    (hps : PS X (.Assign [.Subscript (.Name x p2) b p3] e pos) (tAsg (TEc X e) (gSub (tVar i) (TEc X b) rSetL)))
    (h : WE X m env e fun d => WE X m env b fun y => asInt y fun j => ∃ n, ixN ds.length j = some n ∧ R.nx (env.set i (some (.own q0 (.lst (ds.set n d)))))) : WS X m env (.Assign [.Subscript (.Name x p2) b p3] e pos) R := by
  refine ⟨fun σ F0 H0 Fl F H De W s o => tsc hps ?_⟩
  obtain ⟨v, hσ, ho, rfl, hm, hF, h0, hH, xs, rfl, ha⟩ := s.env.at_ i _ hds
  refine h.run σ H0 F H _ s.good s.env fun v d F1 H1 s1 hv q => ?_
  refine ⟨.ref q0, hσ, ?_⟩
  refine q.run σ H0 F1 H1 _ s1.good (s.env.step s1) fun y dy F2 H2 s2 hy q => ?_
  obtain ⟨j, rfl, rfl, n, hn, q⟩ := hy.asInt q
  have hH2 : H2 q0 = some (.lst xs) := s2.keep q0 _ hm (s1.keep q0 _ hm hH)
  have hF2 := s2.noF (s1.noF hF ⟨_, hH⟩) ⟨_, s1.keep q0 _ hm hH⟩
  refine ⟨q0, xs, j, n, rfl, rfl, hH2, by rw [ha.length]; exact hn, ?_⟩
  exact o.nx _ _ F2 _ ⟨((s.step.trans s1).trans s2).mut hF2 hm h0, ((s.env.step s1).step s2).mut hds (.ofL (((ha.mono s1.fs).mono s2.fs).set (hv.mono s2.fs) n)), (s.fl.trans s1.fs).trans s2.fs⟩ q
theorem ps_setIx {i : Nat} (hN : X.N[i]? = some x) (hv : Vis X.env.scope x) (hd : (x == ("__debug__" : Str)) = false) (hcd : (x == ("__classdict__" : Str)) = false)
    (ha : ∀ v, assign (.Subscript (.Name x p2) b p3) X.env v = (do
      let ov ← holding [v] (eval (.Name x p2) X.env)
      let iv ← holding [v, ov] (eval b X.env)
      standAt p3
      holding [v, ov, iv] (setItem ov iv v)
      release [v, ov, iv] []))
    (hs : swapsWithSole [.Subscript (.Name x p2) b p3] e pos.line X.env = pure false) (hw : swappedStores [.Subscript (.Name x p2) b p3] e X.env = pure none)
    (h1 : (assignEach [.Subscript (.Name x p2) b p3] X.env).map (·.2) = [assign (.Subscript (.Name x p2) b p3) X.env]) : PS X (.Assign [.Subscript (.Name x p2) b p3] e pos) (tAsg (TEc X e) (gSub (tVar i) (TEc X b) rSetL)) :=
  ps_asg pe_can (pg_sub (pe_var hN hv hd hcd) pe_can set_list ha) hs hw h1
/-- x.pop(e) -/
theorem wes_popAt (i : Nat) {q0 : Addr} {ds : List D} (hN : X.N[i]? = some x) (hv : Vis X.env.scope x) (hd : (x == ("__debug__" : Str)) = false) (hcd : (x == ("__classdict__" : Str)) = false) (hds : env[i]? = some (some (.own q0 (.lst ds)))) : True := trivial
end

/-! ### loops -/
section
variable {X : Cx} {m : Option Mem} {env : Ev} {a b c e iter : Expr} {es : List Expr} {pos p2 p3 : Pos} {R : DEnds} {st : Stmt} {rest body els : List Stmt} {x : Str}
theorem EndsOk.loop {F0 H0 Fl : Hp} {De : Ends} {W : WX} (o : EndsOk X m F0 H0 Fl R De W) {N : L2.St → Hp → Prop} {I : Ev → Prop} (h : ∀ σ env F H, Sta X.K m F0 H0 Fl F H σ env → I env → N σ H) :
    EndsOk X m F0 H0 Fl { nx := I, ct := I, bk := R.nx, rt := R.rt, ex := R.ex, ro := R.ro } { De with nx := N, ct := N, bk := De.nx } W := ⟨h, o.rt, o.nx, h, o.tk, o.ex, o.ro⟩
theorem ws_forL (t : Nat) (hp : PassesOwn (model X.prog X.w) X.A X.env X.xe) (hc : X.calm = true) (hN : X.N.Nodup) (hi : X.N[t]? = some x) (hx : Loc X.env.scope x) (hf : X.fn x = true ∨ X.env.scope.names.lookup x = some .local) (hs : ∀ y, foldedSetIterable iter X.env y = pure y)
    (h : WE X m env iter fun d => asLst d fun ds => ∃ I : Nat → Ev → Prop, I 0 env ∧
      (∀ (i : Nat) (d : D) (env' : Ev), ds[i]? = some d → I i env' → WSs X m (env'.set t (some (.frz d))) body { nx := I (i + 1), ct := I (i + 1), bk := R.nx, rt := R.rt, ex := R.ex, ro := R.ro }) ∧ ∀ env', I ds.length env' → R.nx env') :
    WS X m env (.For (.Name x p2) iter body [] pos) R := by
  refine ⟨fun σ F0 H0 Fl F H De W s o => tsc (ps_for hp hc (pi_list pe_can) (pg_name hN hi hx hf) pss_can hs) ?_⟩
  refine h.run σ H0 F H _ s.good s.env fun v d F1 H1 s1 hv q => ?_
  obtain ⟨p, xs, ds, rfl, rfl, h1, h2, I, i0, turn, fin⟩ := hv.asLst q
  refine ⟨p, rfl, ⟨xs, .of (s1.good.sub _ _ h1)⟩, ?_⟩
  refine for_list (K := X.K) (a := p) (xs := xs) (fun i σ H => ∃ F' env', Sta X.K m F0 H0 F1 F' H σ env' ∧ I i env') ⟨F1, env, ⟨s.step.trans s1, s.env.step s1, Same.refl _⟩, i0⟩ (fun i σ H hi ⟨F', env', s', _⟩ => .of (s'.good.sub _ _ (s'.fl _ _ h1))) (fun i v σ H hi ⟨F', env', s', hI⟩ => ?_) fun σ H ⟨F', env', s', hI⟩ => ?_
  · obtain ⟨d, hd, iv⟩ := h2.getV hi
    refine (turn i d env' hd hI).run _ F0 H0 F1 F' H _ W ⟨s'.step, s'.env.frz (iv.mono s'.fl), s'.fl⟩ ?_
    exact ⟨fun σ env F2 H2 s2 w => ⟨F2, env, s2, w⟩, fun v d σ env F2 H2 s2 => o.rt v d σ env F2 H2 (s2.floor (s.fl.trans s1.fs)), fun σ env F2 H2 s2 w => o.nx σ env F2 H2 (s2.floor (s.fl.trans s1.fs)) w, fun σ env F2 H2 s2 w => ⟨F2, env, s2, w⟩, o.tk, fun σ env F2 H2 C d fs s2 => o.ex σ env F2 H2 C d fs (s2.floor (s.fl.trans s1.fs)), fun v d σ env F2 H2 s2 => o.ro v d σ env F2 H2 (s2.floor (s.fl.trans s1.fs))⟩
  · exact o.nx σ env' F' H (s'.floor (s.fl.trans s1.fs)) (fin env' (by rw [← h2.length]; exact hI))
/-- for x in range(n) -/
theorem ws_forR (t : Nat) {pr : Pos} (hp : PassesOwn (model X.prog X.w) X.A X.env X.xe) (hc : X.calm = true) (hN : X.N.Nodup) (hi : X.N[t]? = some x) (hx : Loc X.env.scope x) (hf : X.fn x = true ∨ X.env.scope.names.lookup x = some .local) (hrg : Gl X "range") (hrm : X.mg "range" = none) (hst : starEach [a] X.env = [(false, eval a X.env)])
    (hs : ∀ y, foldedSetIterable (.Call (.Name "range" p3) [a] [] pr) X.env y = pure y)
    (h : WE X m env a fun d => asInt d fun n => (-1000000000 ≤ n ∧ n ≤ 1000000000) ∧ ∃ I : Nat → Ev → Prop, I 0 env ∧
      (∀ (i : Nat) (env' : Ev), (i : Int) < n → I i env' → WSs X m (env'.set t (some (.frz (.int i)))) body { nx := I (i + 1), ct := I (i + 1), bk := R.nx, rt := R.rt, ex := R.ex, ro := R.ro }) ∧ ∀ env', I n.toNat env' → R.nx env') :
    WS X m env (.For (.Name x p2) (.Call (.Name "range" p3) [a] [] pr) body [] pos) R := by
  refine ⟨fun σ F0 H0 Fl F H De W s o => tsc (ps_for hp hc (pi_range1 hrg hrm (pa_cons pe_can pa_nil hst) hst) (pg_name hN hi hx hf) pss_can hs) ?_⟩
  refine h.run σ H0 F H _ s.good s.env fun v d F1 H1 s1 hv q => ?_
  obtain ⟨n, rfl, rfl, ⟨hn1, hn2⟩, I, i0, turn, fin⟩ := hv.asInt q
  refine ⟨n, rfl, by omega, by omega, ?_⟩
  refine for_range (fun i σ H => ∃ F' env', Sta X.K m F0 H0 F1 F' H σ env' ∧ I i env') ⟨F1, env, ⟨s.step.trans s1, s.env.step s1, Same.refl _⟩, i0⟩ (fun i σ H hi ⟨F', env', s', hI⟩ => ?_) fun σ H ⟨F', env', s', hI⟩ => ?_
  · have hlt : (i : Int) < n := by omega
    have e0 : ((0 : Int) + (i : Int)) = (i : Int) := by omega
    rw [e0]
    refine (turn i env' hlt hI).run _ F0 H0 F1 F' H _ W ⟨s'.step, s'.env.frz (.int _), s'.fl⟩ ?_
    exact ⟨fun σ env F2 H2 s2 w => ⟨F2, env, s2, w⟩, fun v d σ env F2 H2 s2 => o.rt v d σ env F2 H2 (s2.floor (s.fl.trans s1.fs)), fun σ env F2 H2 s2 w => o.nx σ env F2 H2 (s2.floor (s.fl.trans s1.fs)) w, fun σ env F2 H2 s2 w => ⟨F2, env, s2, w⟩, o.tk, fun σ env F2 H2 C d fs s2 => o.ex σ env F2 H2 C d fs (s2.floor (s.fl.trans s1.fs)), fun v d σ env F2 H2 s2 => o.ro v d σ env F2 H2 (s2.floor (s.fl.trans s1.fs))⟩
  · exact o.nx σ env' F' H (s'.floor (s.fl.trans s1.fs)) (fin env' hI)
/-- while: I by a measure -/
theorem ws_while (hp : PassesOwn (model X.prog X.w) X.A X.env X.xe) (I : Nat → Ev → Prop) (n0 : Nat) (i0 : I n0 env)
    (turn : ∀ (n : Nat) (env' : Ev), I n env' → WT X m env' c fun t => if t = true then WSs X m env' body { nx := fun ev => ∃ n', n' < n ∧ I n' ev, ct := fun ev => ∃ n', n' < n ∧ I n' ev, bk := R.nx, rt := R.rt, ex := R.ex, ro := R.ro } else R.nx env') :
    WS X m env (.While c body [] pos) R := by
  refine ⟨fun σ F0 H0 Fl F H De W s o => tsc (ps_while hp pt_can pss_can) ?_⟩
  refine ⟨fun n σ H => ∃ F' env', Sta X.K m F0 H0 Fl F' H σ env' ∧ I n env', ⟨n0, F, env, s, i0⟩, fun n σ H ⟨F', env', s', hI⟩ => ?_⟩
  refine (turn n env' hI).run σ H0 F' H _ s'.good s'.env fun t F1 H1 s1 q => ?_
  cases t with
  | true =>
    rw [if_pos rfl] at q ⊢
    refine ⟨fun σ H => ∃ F' env', Sta X.K m F0 H0 Fl F' H σ env' ∧ ∃ n', n' < n ∧ I n' env', fun σ' H' ⟨F2, env2, s2, n', hn, hI'⟩ => ⟨n', hn, F2, env2, s2, hI'⟩, ?_⟩
    refine q.run σ F0 H0 Fl F1 H1 _ W (s'.after s1) ?_
    exact ⟨fun σ env F2 H2 s2 w => ⟨F2, env, s2, w⟩, o.rt, o.nx, fun σ env F2 H2 s2 w => ⟨F2, env, s2, w⟩, o.tk, o.ex, o.ro⟩
  | false =>
    rw [if_neg Bool.false_ne_true] at q ⊢
    exact o.nx σ env' F1 H1 (s'.after s1) q
end

/-! ### a def's promise by its body -/
def envOf (N : List Str) (ds : List D) : Ev := ds.map (fun d => some (.frz d)) ++ List.replicate (N.length - ds.length) none
theorem envs_start {K : PySem.W.Frag} {m : Option Mem} {F H : Hp} {N : List Str} {vs : List V} {ds : List D} (h : IsAll K F vs ds) : Envs K m H F H (L2.start N vs) (envOf N ds) := by
  have aux : ∀ (i : Nat) (s : Slot), (envOf N ds)[i]? = some (some s) → ∃ d, s = .frz d ∧ ds[i]? = some d := fun i s e => by
    unfold envOf at e
    rcases Nat.lt_or_ge i ds.length with hi | hi
    · rw [List.getElem?_append_left (by simpa using hi), List.getElem?_map] at e
      cases e1 : ds[i]? with
      | none => rw [e1] at e; cases e
      | some d =>
        rw [e1] at e
        cases e
        exact ⟨d, rfl, rfl⟩
    · rw [List.getElem?_append_right (by simpa using hi)] at e
      have := List.mem_of_getElem? e
      have := List.eq_of_mem_replicate this
      cases this
  refine ⟨fun i s e => ?_, ?_, fun i j es fs p hij e1 e2 => ?_, fun i j s t a _ e1 _ ha => by obtain ⟨d, rfl, _⟩ := aux i s e1; cases ha⟩
  · obtain ⟨d, rfl, hd⟩ := aux i s e
    obtain ⟨v, hv, iv⟩ := h.get hd
    refine ⟨v, ?_, iv⟩
    have hi : i < vs.length := (List.getElem?_eq_some_iff.mp hv).1
    unfold L2.start
    rw [List.getElem?_append_left (by simpa using hi), List.getElem?_map, hv]
    rfl
  · unfold L2.start envOf
    simp [h.length]
  · obtain ⟨d, hd, _⟩ := aux i _ e1
    cases hd
section
variable {P : Program} {w : World} {K : PySem.W.Frag} {mg : Str → Option Value} {base : Heap}
theorem Fun.okD {x qual : Str} {st : Stmt} {f : Addr} {fd : FuncData} {N ps : List Str} {k : Nat} {A : List D → (D → Prop) → Prop} (Fn : Fun K x qual st f fd) (S : FnScope N ps (defScope st))
    (hb : ∀ (cdv : Value) (Ar : Around) (outer : List Env) (s : Shared) (H : Hp) (E : XK) (ds : List D) (Q : D → Prop), Room k (Ar.deeper (PyProof.Rows.envOfC qual (defScope st) s.heap.objs.size f cdv)) → ds.length = ps.length → A ds Q →
      WSs (cxOf (L2.CX P w) P w K mg base N qual (defScope st) f cdv Ar outer s H E) none (envOf N ds) (defBody st) { nx := fun _ => Q .non, rt := fun d _ => Q d }) :
    FnOk P w K mg base (L2.CX P w) (k + 1) f fd ps (spD K none ps.length A) := by
  refine Fn.okX S (fun vs H Q E h => h.1) fun cdv Ar outer s H vs Q E hr h => ⟨_, pss_can, ?_⟩
  obtain ⟨hl, F, ds, Q', g, ha, hA, t⟩ := h
  refine (hb cdv Ar outer s H E ds Q' hr (by rw [← ha.length]; exact hl) hA).run _ F H F F H _ (fun _ _ _ _ => False) ⟨.refl g, envs_start ha, Same.refl _⟩ ?_
  exact ⟨fun σ env F' H' s' q => t .non .non F' H' s'.step .non q, fun v d σ env F' H' s' hv q => t v d F' H' s'.step hv q, fun _ _ _ _ _ z => z.elim, fun _ _ _ _ _ z => z.elim, takes0, fun _ _ _ _ _ _ _ _ _ z => z.elim, fun _ _ _ _ _ _ _ _ _ z => z.elim⟩
theorem Fun.okB {x qual : Str} {st : Stmt} {f : Addr} {fd : FuncData} {N ps : List Str} {k : Nat} {A : List D → (D → Prop) → Prop} (Fn : Fun K x qual st f fd) (S : FnScope N ps (defScope st))
    (hb : ∀ (cdv : Value) (Ar : Around) (outer : List Env) (s : Shared) (H : Hp) (E : XK) (b : Mem) (ds : List D) (Q : D → Prop), Room k (Ar.deeper (PyProof.Rows.envOfC qual (defScope st) s.heap.objs.size f cdv)) → ds.length + 1 = ps.length → A ds Q →
      WSs (cxOf (L2.CX P w) P w K mg base N qual (defScope st) f cdv Ar outer s H E) (some b) (envOf N (.ref b :: ds)) (defBody st) { nx := fun _ => Q .non, rt := fun d _ => Q d }) :
    FnOk P w K mg base (L2.CX P w) (k + 1) f fd ps (spB K ps.length A) := by
  refine Fn.okX S (fun vs H Q E h => let ⟨_, _, h⟩ := h; h.1) fun cdv Ar outer s H vs Q E hr h => ⟨_, pss_can, ?_⟩
  obtain ⟨b, _, hl, F, ds, Q', g, ha, ⟨es, rfl, hA⟩, t⟩ := h
  refine (hb cdv Ar outer s H E b es Q' hr (by rw [ha.length] at hl; exact hl) hA).run _ F H F F H _ (fun _ _ _ _ => False) ⟨.refl g, envs_start ha, Same.refl _⟩ ?_
  exact ⟨fun σ env F' H' s' q => t .non .non F' H' s'.step .non q, fun v d σ env F' H' s' hv q => t v d F' H' s'.step hv q, fun _ _ _ _ _ z => z.elim, fun _ _ _ _ _ z => z.elim, takes0, fun _ _ _ _ _ _ _ _ _ z => z.elim, fun _ _ _ _ _ _ _ _ _ z => z.elim⟩
end
end DL
set_option Elab.async false
set_option linter.all false
set_option maxRecDepth 100000
set_option autoImplicit false
/-! DL, part 7: the bag of draws. -/
namespace DL
open PySem L2
def bagD (l : Addr) (ns : List Int) (i : Nat) (q g c : Int) : List D := [.nam l (ns.map .int), .int i, .int q, .int g, .int c]
/-- a draw: any number below the size -/
def A_draw (ds : List D) (P : D → Prop) : Prop := ∃ n : Int, ds = [.int n] ∧ 1 ≤ n ∧ n < 2 ^ 4000 ∧ ∀ r : Int, 0 ≤ r → r < n → P (.int r)
section
variable {P : Program} {w : World} {K : PySem.W.Frag} {mg : Str → Option Value} {base : Heap}
theorem Fun.okDraw {x qual : Str} {st : Stmt} {f : Addr} {fd : FuncData} {N ps : List Str} {k : Nat} (Fn : Fun K x qual st f fd) (S : FnScope N ps (defScope st)) (hps : ps.length = 2)
    (hb : ∀ (cdv : Value) (Ar : Around) (outer : List Env) (s : Shared) (H : Hp) (E : XK) (n : Int) (ns : List Int) (i : Nat) (q g c : Int) (Q : D → Prop), Room k (Ar.deeper (PyProof.Rows.envOfC qual (defScope st) s.heap.objs.size f cdv)) →
      1 ≤ n → n < 2 ^ 4000 → 0 ≤ q → q.natAbs < 2 ^ 1100000 → (∀ z ∈ ns, z.natAbs < 2 ^ 1090000) → (∀ r : Int, 0 ≤ r → r < n → Q (.int r)) →
      ∀ b l : Addr, WSs (cxOf (L2.CX P w) P w K mg base N qual (defScope st) f cdv Ar outer s H E) none (some (.own b (.lst (bagD l ns i q g c))) :: some (.frz (.int n)) :: List.replicate (N.length - 2) none) (defBody st)
        { nx := fun _ => False, rt := fun d env => (∃ (i : Nat) (q g c : Int), env[0]? = some (some (.own b (.lst (bagD l ns i q g c)))) ∧ 0 ≤ q ∧ q.natAbs < 2 ^ 1100000) ∧ ∃ r : Int, d = .int r ∧ Q d }) :
    FnOk P w K mg base (L2.CX P w) (k + 1) f fd ps (spB K 2 A_draw) := by
  refine Fn.okX S (fun vs H Q E h => by rw [hps]; obtain ⟨_, _, h⟩ := h; exact h.1) fun cdv Ar outer s H vs Q E hr h => ⟨_, pss_can, ?_⟩
  obtain ⟨b, hb0, hl, F, ds, Q', g, ha, ⟨es, rfl, n, rfl, hn1, hn2, hQ⟩, t⟩ := h
  obtain ⟨⟨hFb, hFl⟩, i, q, gg, c, hne, hH, hHl, hq0, hq1, hns⟩ := g.bag b rfl
  generalize hnse : b.ns = ns at hHl hns
  have hv : vs = [.ref b, .int n] := by
    cases ha with
    | cons h1 h2 =>
      cases h1
      cases h2 with
      | cons h3 h4 => cases h3; cases h4; rfl
  subst hv
  let F1 : Hp := fun a => if a = b.l then some (.lst (ns.map V.int)) else F a
  have F1l : F1 b.l = some (.lst (ns.map V.int)) := if_pos rfl
  have F1n : ∀ a, a ≠ b.l → F1 a = F a := fun a h => if_neg h
  have g1 : Good K none F1 H := ⟨fun a o e => by
    by_cases h : a = b.l
    · subst h; rw [F1l] at e; rw [hHl]; exact e
    · rw [F1n a h] at e; exact g.sub a o e, fun _ z => nomatch z⟩
  have hF1b : F1 b.b = none := (F1n _ hne).trans hFb
  let H0 : Hp := fun a => if a = b.b then none else H a
  have h0b : H0 b.b = none := if_pos rfl
  have h0 : ∀ a, a ≠ b.b → H0 a = H a := fun a h => if_neg h
  have start : Sta K none F1 H0 F1 F1 H (L2.start N [.ref b, .int n]) (some (.own b (.lst (bagD b.l ns i q gg c))) :: some (.frz (.int n)) :: List.replicate (N.length - 2) none) := by
    refine ⟨⟨Same.refl _, g1, fun a h1 h2 => absurd h1 h2, fun a o _ h => ?_⟩, ⟨fun j s e => ?_, ?_, fun j k ds es p hjk e1 e2 => ?_, fun j k s t a _ e1 _ ha => by
        match j, e1 with
        | 0, e1 => cases e1; cases ha
        | 1, e1 => cases e1; cases ha
        | j + 2, e1 =>
          have e : (List.replicate (N.length - 2) (none : Option Slot))[j]? = some (some s) := e1
          have := List.eq_of_mem_replicate (List.mem_of_getElem? e)
          cases this⟩, Same.refl _⟩
    · by_cases hab : a = b.b
      · subst hab; rw [h0b] at h; cases h
      · rw [h0 a hab] at h; exact h
    · match j, e with
      | 0, e =>
        cases e
        refine ⟨.ref b, rfl, _, rfl, (fun z => nomatch z), hF1b, h0b, hH, _, rfl, IsAll.cons (.nam F1l (isAll_ints ns)) (.cons (.int _) (.cons (.int _) (.cons (.int _) (.cons (.int _) .nil))))⟩
      | 1, e => cases e; exact ⟨.int n, rfl, .int n⟩
      | j + 2, e =>
        have e : (List.replicate (N.length - 2) (none : Option Slot))[j]? = some (some s) := e
        have := List.eq_of_mem_replicate (List.mem_of_getElem? e)
        cases this
    · show (L2.start N [.ref b, .int n]).length = _
      unfold L2.start
      simp
    · match j, e1 with
      | 0, e1 =>
        match k, e2 with
        | 0, e2 => exact absurd rfl hjk
        | 1, e2 => cases e2
        | k + 2, e2 =>
          have e : (List.replicate (N.length - 2) (none : Option Slot))[k]? = some (some (.own p es)) := e2
          have := List.eq_of_mem_replicate (List.mem_of_getElem? e)
          cases this
      | 1, e1 => cases e1
      | j + 2, e1 =>
        have e : (List.replicate (N.length - 2) (none : Option Slot))[j]? = some (some (.own p ds)) := e1
        have := List.eq_of_mem_replicate (List.mem_of_getElem? e)
        cases this
  refine (hb cdv Ar outer s H E n ns i q gg c Q' hr hn1 hn2 hq0 hq1 hns hQ b b.l).run _ F1 H0 F1 F1 H _ (fun _ _ _ _ => False) start ?_
  refine ⟨fun _ _ _ _ _ z => z.elim, fun v d σ env F' H' s' hv q => ?_, fun _ _ _ _ _ z => z.elim, fun _ _ _ _ _ z => z.elim, takes0, fun _ _ _ _ _ _ _ _ _ z => z.elim, fun _ _ _ _ _ _ _ _ _ z => z.elim⟩
  obtain ⟨⟨i', q', g', c', he, hq0', hq1'⟩, r, rfl, hQd⟩ := q
  cases hv
  obtain ⟨v0, hσ0, ho, rfl, _, hFp, _, hHp, xs, rfl, hap⟩ := s'.env.at_ 0 _ he
  have kp : ∀ a o, a ≠ b.b → H a = some o → H' a = some o := fun a o hab ho => s'.step.keep a o (fun z => nomatch z) (by rw [h0 a hab]; exact ho)
  have hHl' := kp _ _ (Ne.symm hne) hHl
  refine t _ _ F H' ⟨Same.refl _, ⟨fun a o e => kp a o (fun z => by rw [z, hFb] at e; cases e) (g.sub a o e), fun z hz => ?_⟩, fun a h1 h2 => absurd h1 h2, fun a o hm ho => ?_⟩ (.int r) hQd
  · cases hz
    refine ⟨⟨hFb, hFl⟩, ?_⟩
    cases hap with
    | cons a1 r1 =>
      cases a1 with
      | nam c1 c2 =>
        obtain rfl := c2.ints
        cases r1 with
        | cons a2 r2 =>
          cases a2
          cases r2 with
          | cons a3 r3 =>
            cases a3
            cases r3 with
            | cons a4 r4 =>
              cases a4
              cases r4 with
              | cons a5 r5 =>
                cases a5
                cases r5
                exact ⟨i', q', g', c', hne, hHp, by rw [hnse]; exact hHl', hq0', hq1', by rw [hnse]; exact hns⟩
  · exact kp a o (fun z => hm (by rw [z]; exact .b b)) ho
end
end DL
set_option Elab.async false
set_option linter.all false
set_option maxRecDepth 100000
set_option autoImplicit false
/-! DL, part 8: own classes' special methods; the rules over a context told by its facts alone. -/
namespace DL
open PySem L2

/-! ### special methods of an own class, by the layer's values -/
def rInO (C : Addr) (sp : Sp) (neg : Bool) : R2 := fun x y H Q => ∃ a dx fs, y = .ref a ∧ H a = some (.ins C dx fs) ∧ sp [.ref a, x] H (fun v H' => ∃ c, v = .bl c ∧ Q (.bl (if neg then !c else c)) H') E0
section
variable {X : Cx} {C f : Addr} {fd : FuncData} {ps : List Str} {sp : Sp} {k : Nat}
theorem op_inO (hs : PySem.W.findIn X.K (.ref C) "__contains__" = some (some (.ref f))) (hf : PySem.W.isFn X.K (.ref f) = true) (Fn : FnOk X.prog X.w X.K X.mg X.base (L2.CX X.prog X.w) k f fd ps sp) (hr : Room k X.A) (hb : Binds X.K fd ps []) :
    OpR X (compareOp .In) (rInO C sp false) := by
  intro pins s σ H x y v u Q I rx ry h
  obtain ⟨a, dx, fs, rfl, hH, h⟩ := h
  cases ry
  obtain ⟨ox, od, J, hd⟩ := StX.insC_at I (.inr ⟨dx, fs, hH⟩)
  obtain ⟨m0, fr⟩ := I.fr
  refine PySem.W.in_K fr I.ok.mod.kin J hs hf (thn (run_fn (us := [.ref a, v]) (vs := [.ref a, x]) Fn hr hb .nil passL I (.cons rfl (.cons rx .nil)) h) fun r s' ⟨v', H', I', rv, c, e, q⟩ => ?_)
  subst e
  cases rv
  exact wpAny_truthy_bool ⟨.bl c, H', I', rfl, by simpa using q⟩
theorem op_notInO (hs : PySem.W.findIn X.K (.ref C) "__contains__" = some (some (.ref f))) (hf : PySem.W.isFn X.K (.ref f) = true) (Fn : FnOk X.prog X.w X.K X.mg X.base (L2.CX X.prog X.w) k f fd ps sp) (hr : Room k X.A) (hb : Binds X.K fd ps []) :
    OpR X (compareOp .NotIn) (rInO C sp true) := by
  intro pins s σ H x y v u Q I rx ry h
  obtain ⟨a, dx, fs, rfl, hH, h⟩ := h
  cases ry
  obtain ⟨ox, od, J, hd⟩ := StX.insC_at I (.inr ⟨dx, fs, hH⟩)
  obtain ⟨m0, fr⟩ := I.fr
  refine PySem.W.notIn_K fr I.ok.mod.kin J hs hf (thn (run_fn (us := [.ref a, v]) (vs := [.ref a, x]) Fn hr hb .nil passL I (.cons rfl (.cons rx .nil)) h) fun r s' ⟨v', H', I', rv, c, e, q⟩ => ?_)
  subst e
  cases rv
  exact wpAny_truthy_bool ⟨.bl (!c), H', I', rfl, by simpa using q⟩
def rLenO (C : Addr) (sp : Sp) : List V → Hp → VK → Prop := fun xs H Q => ∃ a dx fs, xs = [.ref a] ∧ H a = some (.ins C dx fs) ∧ sp [.ref a] H (fun v H' => ∃ n : Int, v = .int n ∧ 0 ≤ n ∧ n < 2 ^ 63 ∧ Q (.int n) H') E0
theorem call_lenO (hs : PySem.W.findIn X.K (.ref C) "__len__" = some (some (.ref f))) (hf : PySem.W.isFn X.K (.ref f) = true) (Fn : FnOk X.prog X.w X.K X.mg X.base (L2.CX X.prog X.w) k f fd ps sp) (hr : Room (k + 1) X.A) (hb : Binds X.K fd ps []) :
    CallR X (.builtin "len") (rLenO C sp) := by
  intro pins s σ H xs us Q I r h
  obtain ⟨a, dx, fs, rfl, hH, h⟩ := h
  obtain ⟨u, rfl, rx⟩ := vals1 r
  cases rx
  obtain ⟨ox, od, J, hd⟩ := StX.insC_at I (.inr ⟨dx, fs, hH⟩)
  obtain ⟨m0, fr⟩ := I.fr
  have hl : ([Value.ref a] ++ []).length = ps.length := by rw [← Fn.len _ _ _ _ h]; rfl
  refine PySem.W.len_K fr I.ok.mod.kin J hs hf (wpAny_call (codeAny_mono (Fn.run X.A.in1 X.stack s H ⟨[.ref a], []⟩ ([.ref a] ++ []) [.ref a] _ E0 hr.in1 I.env0.in1 (hb _ [.ref a] I.kIn hl) (Paired.cons (show RelV (V.ref a) (Value.ref a) from rfl) Paired.nil) h) fun r s' hq => ?_))
  cases r with
  | error er => exact passL pins σ H s er s' I hq
  | ok fl =>
    cases fl with
    | ret u =>
      obtain ⟨v, H', I3, rv, n, rfl, h0, h1, q⟩ := I.after hq
      obtain ⟨t, rfl⟩ := rv
      exact ⟨⟨h0, h1⟩, .int n, H', I3.tok _, ⟨_, rfl⟩, q⟩
    | next => exact False.elim hq
    | brk => exact False.elim hq
    | cont => exact False.elim hq
end

/-! ### a context by its facts -/
inductive At : List Str → Nat → Str → Prop
  | z {x : Str} {l : List Str} : At (x :: l) 0 x
  | s {x y : Str} {l : List Str} {i : Nat} : At l i x → At (y :: l) (i + 1) x
theorem At.get : ∀ {l : List Str} {i : Nat} {x : Str}, At l i x → l[i]? = some x
  | _, _, _, .z => rfl
  | _, _, _, .s h => h.get
theorem At.mem {l : List Str} {i : Nat} {x : Str} (h : At l i x) : x ∈ l := List.mem_of_getElem? h.get
def NoMg (mg : Str → Option Value) (l : List Str) : Prop := ∀ x ∈ l, mg x = none
def VisOk (sc : Scope) (x : Str) : Bool := (match sc.names.lookup x with | some .local => true | some .cell => true | some .free => true | _ => false) && !(x == ("__debug__" : Str)) && !(x == ("__classdict__" : Str))
def LocOk (sc : Scope) (x : Str) : Bool := (match sc.names.lookup x with | some .local => true | some .cell => true | _ => false)
def GlOk (sc : Scope) (x : Str) : Bool := (match sc.names.lookup x with | some .globalImplicit => true | _ => false) && !(x == ("__debug__" : Str)) && !(x == ("__name__" : Str))
structure DX (X : Cx) (P : Program) (w : World) (K : PySem.W.Frag) (mg : Str → Option Value) (base : Heap) (N Vn L G : List Str) (S : Scope) (k : Nat) : Prop where
  prog : X.prog = P
  w_ : X.w = w
  K_ : X.K = K
  mg_ : X.mg = mg
  base_ : X.base = base
  N_ : X.N = N
  nd : N.Nodup
  S_ : X.env.scope = S
  vis : ∀ x ∈ Vn, VisOk S x = true
  loc : ∀ x ∈ L, LocOk S x = true
  fn : ∀ x ∈ L, X.fn x = true
  gl : ∀ x ∈ G, GlOk S x = true
  calm : X.calm = true
  room : Room k X.A
  pass : PassesOwn (model X.prog X.w) X.A X.env X.xe
section
variable {X : Cx} {P : Program} {w : World} {K : PySem.W.Frag} {mg : Str → Option Value} {base : Heap} {N Vn L G B : List Str} {S : Scope} {k : Nat} {x : Str} {i j : Nat}
theorem DX.v (dx : DX X P w K mg base N Vn L G S k) (h : At Vn j x) : Vis X.env.scope x ∧ (x == ("__debug__" : Str)) = false ∧ (x == ("__classdict__" : Str)) = false := by
  have q := dx.vis x h.mem
  unfold VisOk at q
  rw [dx.S_]
  simp only [Bool.and_eq_true, Bool.not_eq_true'] at q
  refine ⟨?_, q.1.2, q.2⟩
  have q1 := q.1.1
  unfold Vis
  cases e : S.names.lookup x with
  | none => rw [e] at q1; cases q1
  | some kd =>
    rw [e] at q1
    cases kd <;> first | exact .inl rfl | exact .inr (.inl rfl) | exact .inr (.inr rfl) | cases q1
theorem DX.l (dx : DX X P w K mg base N Vn L G S k) (h : At L j x) : L2.Loc X.env.scope x ∧ (X.fn x = true ∨ X.env.scope.names.lookup x = some .local) := by
  have q := dx.loc x h.mem
  unfold LocOk at q
  rw [dx.S_]
  refine ⟨?_, .inl (dx.fn x h.mem)⟩
  unfold L2.Loc
  cases e : S.names.lookup x with
  | none => rw [e] at q; cases q
  | some kd =>
    rw [e] at q
    cases kd <;> first | exact .inl rfl | exact .inr rfl | cases q
theorem DX.g (dx : DX X P w K mg base N Vn L G S k) (h : At G j x) : Gl X x ∧ (x == ("__debug__" : Str)) = false ∧ x ≠ "__name__" := by
  have q := dx.gl x h.mem
  unfold GlOk at q
  simp only [Bool.and_eq_true, Bool.not_eq_true'] at q
  refine ⟨?_, q.1.2, fun z => by have := q.2; rw [z] at this; simp at this⟩
  have q1 := q.1.1
  show X.env.scope.names.lookup x = some .globalImplicit
  rw [dx.S_]
  cases e : S.names.lookup x with
  | none => rw [e] at q1; cases q1
  | some kd =>
    rw [e] at q1
    cases kd <;> first | rfl | cases q1
theorem DX.n (dx : DX X P w K mg base N Vn L G S k) (h : At N i x) : X.N[i]? = some x := by rw [dx.N_]; exact h.get
theorem DX.ndX (dx : DX X P w K mg base N Vn L G S k) : X.N.Nodup := by rw [dx.N_]; exact dx.nd
theorem DX.b (dx : DX X P w K mg base N Vn L G S k) (hb : NoMg mg B) (h : At B j x) : X.mg x = none := by rw [dx.mg_]; exact hb x h.mem
variable {m : Option Mem} {env : Ev} {a b c e iter elt : Expr} {es : List Expr} {Q : D → Prop} {pos p2 p3 p4 : Pos} {R : DEnds} {rest body els : List Stmt} {j2 : Nat}
theorem dl_name (dx : DX X P w K mg base N Vn L G S k) (h1 : At N i x) (h2 : At Vn j x) {d : D} (he : env[i]? = some (some (.frz d))) (h : Q d) : WE X m env (.Name x pos) Q :=
  let ⟨v, d1, d2⟩ := dx.v h2; we_name i (dx.n h1) v d1 d2 he h
theorem dl_ixOwn (dx : DX X P w K mg base N Vn L G S k) (h1 : At N i x) (h2 : At Vn j x) {q0 : Addr} {ds : List D} (he : env[i]? = some (some (.own q0 (.lst ds)))) (hs : PlainIx b) (h : WE X m env b fun y => asInt y fun j => ∃ d, atI ds j = some d ∧ Q d) : WE X m env (.Subscript (.Name x p2) b pos) Q :=
  let ⟨v, d1, d2⟩ := dx.v h2; we_ixOwn i (dx.n h1) v d1 d2 he hs h
theorem dl_lenOwn (dx : DX X P w K mg base N Vn L G S k) (bn : NoMg mg B) (h1 : At N i x) (h2 : At Vn j x) (h3 : At G j2 "len") {j3 : Nat} (h4 : At B j3 "len") {q0 : Addr} {ds : List D} (he : env[i]? = some (some (.own q0 (.lst ds)))) (h : Q (.int ds.length)) : WE X m env (.Call (.Name "len" p3) [.Name x p2] [] pos) Q :=
  let ⟨v, d1, d2⟩ := dx.v h2; we_lenOwn i (dx.n h1) v d1 d2 he (dx.g h3).1 (dx.b bn h4) rfl rfl h
theorem dl_set (dx : DX X P w K mg base N Vn L G S k) (h1 : At N i x) (h2 : At L j x) (hs : swapsWith e (some (.Name x p2)) pos.line X.env = pure false) (h : WE X m env e fun d => R.nx (env.set i (some (.frz d)))) : WS X m env (.Assign [.Name x p2] e pos) R :=
  let ⟨l1, l2⟩ := dx.l h2; ws_set i dx.ndX (dx.n h1) l1 l2 hs h
theorem dl_setL (dx : DX X P w K mg base N Vn L G S k) (h1 : At N i x) (h2 : At L j x) (hs : swapsWith e (some (.Name x p2)) pos.line X.env = pure false) (h : WL X m env e fun ds => ∀ p, R.nx (env.set i (some (.own p (.lst ds))))) : WS X m env (.Assign [.Name x p2] e pos) R :=
  let ⟨l1, l2⟩ := dx.l h2; ws_setL i dx.ndX (dx.n h1) l1 l2 hs h
theorem dl_retOwn (dx : DX X P w K mg base N Vn L G S k) (h1 : At N i x) (h2 : At Vn j x) {q0 : Addr} {ds : List D} (he : env[i]? = some (some (.own q0 (.lst ds)))) (h : R.rt (.lst ds) (env.set i (some (.frz (.lst ds))))) : WS X m env (.Return (some (.Name x p2)) pos) R :=
  let ⟨v, d1, d2⟩ := dx.v h2; ws_retOwn i (dx.n h1) v d1 d2 he h
theorem dl_setIx (dx : DX X P w K mg base N Vn L G S k) (h1 : At N i x) (h2 : At Vn j x) {q0 : Addr} {ds : List D} (he : env[i]? = some (some (.own q0 (.lst ds))))
    (ha : ∀ v, assign (.Subscript (.Name x p2) b p3) X.env v = (do
      let ov ← holding [v] (eval (.Name x p2) X.env)
      let iv ← holding [v, ov] (eval b X.env)
      standAt p3
      holding [v, ov, iv] (setItem ov iv v)
      release [v, ov, iv] []))
    (hs : swapsWithSole [.Subscript (.Name x p2) b p3] e pos.line X.env = pure false) (hw : swappedStores [.Subscript (.Name x p2) b p3] e X.env = pure none)
    (ha1 : (assignEach [.Subscript (.Name x p2) b p3] X.env).map (·.2) = [assign (.Subscript (.Name x p2) b p3) X.env])
    (h : WE X m env e fun d => WE X m env b fun y => asInt y fun j => ∃ n, ixN ds.length j = some n ∧ R.nx (env.set i (some (.own q0 (.lst (ds.set n d)))))) : WS X m env (.Assign [.Subscript (.Name x p2) b p3] e pos) R :=
  let ⟨v, d1, d2⟩ := dx.v h2; ws_setIx i (dx.n h1) v d1 d2 he (ps_setIx (dx.n h1) v d1 d2 ha hs hw ha1) h
theorem dl_append (dx : DX X P w K mg base N Vn L G S k) (h1 : At N i x) (h2 : At Vn j x) {q0 : Addr} {ds : List D} (he : env[i]? = some (some (.own q0 (.lst ds))))
    (hbm : ∀ {to : TE} {t : TA}, PE X (.Name x p2) to → PA X [e] t → PE X (.Call (.Attribute (.Name x p2) "append" p3) [e] [] p4) (tBM X.K "list" rAppend to t)) (hst : starEach [e] X.env = [(false, eval e X.env)])
    (hs : swapsWith (.Call (.Attribute (.Name x p2) "append" p3) [e] [] p4) none pos.line X.env = pure false) (hl : ds.length < 1000000)
    (h : WE X m env e fun d => R.nx (env.set i (some (.own q0 (.lst (ds ++ [d])))))) : WS X m env (.Expr (.Call (.Attribute (.Name x p2) "append" p3) [e] [] p4) pos) R :=
  let ⟨v, d1, d2⟩ := dx.v h2; ws_append i (dx.n h1) v d1 d2 hbm hst hs he hl h
/-- built-ins by their names: one argument, two -/
theorem dl_cb1 {r : List V → Hp → VK → Prop} {id : String} (hc : CallR X (.builtin id) r) (hv : bootBuiltins x = some (.builtin id)) (dx : DX X P w K mg base N Vn L G S k) (bn : NoMg mg B) (h3 : At G j x) (h4 : At B j2 x) (hs : starEach [a] X.env = [(false, eval a X.env)])
    (w : WE X m env a fun d => CD X.K m r [d] Q) : WE X m env (.Call (.Name x p2) [a] [] pos) Q :=
  let ⟨g1, g2, g3⟩ := dx.g h3; we_cb hc g1 (dx.b bn h4) hv g3 g2 hs rfl (wa_cons (w.mono fun _ h => wa_nil h) hs)
theorem dl_cb2 {r : List V → Hp → VK → Prop} {id : String} (hc : CallR X (.builtin id) r) (hv : bootBuiltins x = some (.builtin id)) (dx : DX X P w K mg base N Vn L G S k) (bn : NoMg mg B) (h3 : At G j x) (h4 : At B j2 x) (hs : starEach [a, b] X.env = [(false, eval a X.env), (false, eval b X.env)]) (hs2 : starEach [b] X.env = [(false, eval b X.env)])
    (w : WE X m env a fun d => WE X m env b fun d' => CD X.K m r [d, d'] Q) : WE X m env (.Call (.Name x p2) [a, b] [] pos) Q :=
  let ⟨g1, g2, g3⟩ := dx.g h3; we_cb hc g1 (dx.b bn h4) hv g3 g2 (by rw [hs, hs2]) (by rw [hs2]; rfl) (wa_cons (w.mono fun _ h => wa_cons (h.mono fun _ h => wa_nil h) hs2) (by rw [hs, hs2]))
theorem dl_ct1 {r : List V → Hp → VK → Prop} {T : String} (hc : CallR X (.type T) r) (hv : bootBuiltins x = some (.type T)) (dx : DX X P w K mg base N Vn L G S k) (bn : NoMg mg B) (h3 : At G j x) (h4 : At B j2 x) (hs : starEach [a] X.env = [(false, eval a X.env)])
    (w : WE X m env a fun d => CD X.K m r [d] Q) : WE X m env (.Call (.Name x p2) [a] [] pos) Q :=
  let ⟨g1, g2, g3⟩ := dx.g h3; we_ct hc g1 (dx.b bn h4) hv g3 g2 hs rfl (wa_cons (w.mono fun _ h => wa_nil h) hs)
theorem dl_lcb1 {r : List V → Hp → VK → Prop} {id : String} {Q : List D → Prop} (hc : CallR X (.builtin id) r) (hv : bootBuiltins x = some (.builtin id)) (dx : DX X P w K mg base N Vn L G S k) (bn : NoMg mg B) (h3 : At G j x) (h4 : At B j2 x) (hs : starEach [a] X.env = [(false, eval a X.env)])
    (w : WE X m env a fun d => CL X.K m r [d] Q) : WL X m env (.Call (.Name x p2) [a] [] pos) Q :=
  let ⟨g1, g2, g3⟩ := dx.g h3; wl_cb hc g1 (dx.b bn h4) hv g3 g2 hs rfl (wa_cons (w.mono fun _ h => wa_nil h) hs)
theorem dl_lct1 {r : List V → Hp → VK → Prop} {T : String} {Q : List D → Prop} (hc : CallR X (.type T) r) (hv : bootBuiltins x = some (.type T)) (dx : DX X P w K mg base N Vn L G S k) (bn : NoMg mg B) (h3 : At G j x) (h4 : At B j2 x) (hs : starEach [a] X.env = [(false, eval a X.env)])
    (w : WE X m env a fun d => CL X.K m r [d] Q) : WL X m env (.Call (.Name x p2) [a] [] pos) Q :=
  let ⟨g1, g2, g3⟩ := dx.g h3; wl_ct hc g1 (dx.b bn h4) hv g3 g2 hs rfl (wa_cons (w.mono fun _ h => wa_nil h) hs)
theorem boot_min : bootBuiltins "min" = some (.builtin "min") := by decide +kernel
theorem boot_max : bootBuiltins "max" = some (.builtin "max") := by decide +kernel
theorem boot_sum : bootBuiltins "sum" = some (.builtin "sum") := by decide +kernel
theorem boot_all : bootBuiltins "all" = some (.builtin "all") := by decide +kernel
theorem boot_any : bootBuiltins "any" = some (.builtin "any") := by decide +kernel
theorem boot_abs : bootBuiltins "abs" = some (.builtin "abs") := by decide +kernel
theorem boot_sorted : bootBuiltins "sorted" = some (.builtin "sorted") := by decide +kernel
theorem boot_isinstance : bootBuiltins "isinstance" = some (.builtin "isinstance") := by decide +kernel
theorem boot_int : bootBuiltins "int" = some (.type "int") := by decide +kernel
theorem boot_list : bootBuiltins "list" = some (.type "list") := by decide +kernel
theorem boot_tuple : bootBuiltins "tuple" = some (.type "tuple") := by decide +kernel
theorem boot_bool : bootBuiltins "bool" = some (.type "bool") := by decide +kernel
variable (dx : DX X P w K mg base N Vn L G S k) (bn : NoMg mg B)
include dx bn
theorem dl_len (h3 : At G j "len") (h4 : At B j2 "len") (hs : starEach [a] X.env = [(false, eval a X.env)]) (w : WE X m env a fun d => asSeq d fun xs => Q (.int xs.length)) : WE X m env (.Call (.Name "len" p2) [a] [] pos) Q :=
  dl_cb1 call_len_seq PySem.boot_len dx bn h3 h4 hs (w.mono fun _ h => cd_len h)
theorem dl_abs (h3 : At G j "abs") (h4 : At B j2 "abs") (hs : starEach [a] X.env = [(false, eval a X.env)]) (w : WE X m env a fun d => asInt d fun i => Q (.int (if i < 0 then -i else i))) : WE X m env (.Call (.Name "abs" p2) [a] [] pos) Q :=
  dl_cb1 call_abs boot_abs dx bn h3 h4 hs (w.mono fun _ h => cd_abs h)
theorem dl_min (h3 : At G j "min") (h4 : At B j2 "min") (hs : starEach [a, b] X.env = [(false, eval a X.env), (false, eval b X.env)]) (hs2 : starEach [b] X.env = [(false, eval b X.env)]) (w : WE X m env a fun x => WE X m env b fun y => asInt x fun i => asInt y fun j => Q (.int (min i j))) : WE X m env (.Call (.Name "min" p2) [a, b] [] pos) Q :=
  dl_cb2 (call_min2 dx.calm) boot_min dx bn h3 h4 hs hs2 (w.mono fun _ h => h.mono fun _ h => cd_min2 h)
theorem dl_max (h3 : At G j "max") (h4 : At B j2 "max") (hs : starEach [a, b] X.env = [(false, eval a X.env), (false, eval b X.env)]) (hs2 : starEach [b] X.env = [(false, eval b X.env)]) (w : WE X m env a fun x => WE X m env b fun y => asInt x fun i => asInt y fun j => Q (.int (max i j))) : WE X m env (.Call (.Name "max" p2) [a, b] [] pos) Q :=
  dl_cb2 (call_max2 dx.calm) boot_max dx bn h3 h4 hs hs2 (w.mono fun _ h => h.mono fun _ h => cd_max2 h)
theorem dl_int (h3 : At G j "int") (h4 : At B j2 "int") (hs : starEach [a] X.env = [(false, eval a X.env)]) (w : WE X m env a fun d => asNum d fun i => Q (.int i)) : WE X m env (.Call (.Name "int" p2) [a] [] pos) Q :=
  dl_ct1 call_int1 boot_int dx bn h3 h4 hs (w.mono fun _ h => cd_int h)
theorem dl_tuple (h3 : At G j "tuple") (h4 : At B j2 "tuple") (hs : starEach [a] X.env = [(false, eval a X.env)]) (w : WE X m env a fun d => asSeq d fun i => Q (.tup i)) : WE X m env (.Call (.Name "tuple" p2) [a] [] pos) Q :=
  dl_ct1 call_tuple_of boot_tuple dx bn h3 h4 hs (w.mono fun _ h => cd_tuple h)
theorem dl_list {Q : List D → Prop} (h3 : At G j "list") (h4 : At B j2 "list") (hs : starEach [a] X.env = [(false, eval a X.env)]) (w : WE X m env a fun d => asSeq d Q) : WL X m env (.Call (.Name "list" p2) [a] [] pos) Q :=
  dl_lct1 call_list_of boot_list dx bn h3 h4 hs (w.mono fun _ h => cl_list h)
theorem dl_sorted {Q : List D → Prop} (h3 : At G j "sorted") (h4 : At B j2 "sorted") (hs : starEach [a] X.env = [(false, eval a X.env)]) (w : WE X m env a fun d => asInts d fun ns => ∀ ms : List Int, ms.Perm ns → ms.Pairwise (· ≤ ·) → Q (ms.map D.int)) : WL X m env (.Call (.Name "sorted" p2) [a] [] pos) Q :=
  dl_lcb1 cr_sortedI boot_sorted dx bn h3 h4 hs (w.mono fun _ h => cl_sorted h)
theorem dl_sum (h3 : At G j "sum") (h4 : At B j2 "sum") (hs : starEach [a] X.env = [(false, eval a X.env)]) (w : WE X m env a fun d => asInts d fun i => Q (.int i.sum)) : WE X m env (.Call (.Name "sum" p2) [a] [] pos) Q :=
  dl_cb1 (cr_sum dx.calm) boot_sum dx bn h3 h4 hs (w.mono fun _ h => cd_sum h)
theorem dl_all (h3 : At G j "all") (h4 : At B j2 "all") (hs : starEach [a] X.env = [(false, eval a X.env)]) (w : WE X m env a fun d => asBls d fun i => Q (.bl (i.all id))) : WE X m env (.Call (.Name "all" p2) [a] [] pos) Q :=
  dl_cb1 (cr_all dx.calm) boot_all dx bn h3 h4 hs (w.mono fun _ h => cd_all h)
theorem dl_any (h3 : At G j "any") (h4 : At B j2 "any") (hs : starEach [a] X.env = [(false, eval a X.env)]) (w : WE X m env a fun d => asBls d fun i => Q (.bl (i.any id))) : WE X m env (.Call (.Name "any" p2) [a] [] pos) Q :=
  dl_cb1 (cr_any dx.calm) boot_any dx bn h3 h4 hs (w.mono fun _ h => cd_any h)
theorem dl_isi (h3 : At G j "isinstance") (h4 : At B j2 "isinstance") (hs : starEach [a, b] X.env = [(false, eval a X.env), (false, eval b X.env)]) (hs2 : starEach [b] X.env = [(false, eval b X.env)]) (w : WE X m env a fun x => WE X m env b fun c => ∃ n T r, x.tyn = some n ∧ c = .ty T ∧ kitB n T = some r ∧ Q (.bl r)) : WE X m env (.Call (.Name "isinstance" p2) [a, b] [] pos) Q :=
  dl_cb2 call_isi boot_isinstance dx bn h3 h4 hs hs2 (w.mono fun _ h => h.mono fun _ h => cd_isi h)
/-- the classes int, bool, list, str, tuple as values -/
theorem dl_ty {T : String} (hv : bootBuiltins x = some (.type T)) (h3 : At G j x) (h4 : At B j2 x) (h : Q (.ty T)) : WE X m env (.Name x pos) Q :=
  let ⟨g1, g2, g3⟩ := dx.g h3; we_bltn g1 (dx.b bn h4) hv g3 g2 h
omit bn
theorem dl_glob (h3 : At G j x) {d : D} {v : V} {u : Value} (hm : mg x = some u) (r : RelV v u) (hf : DL.flat d = some v) (h : Q d) : WE X m env (.Name x pos) Q :=
  let ⟨g1, g2, g3⟩ := dx.g h3; we_glob g1 (by rw [dx.mg_]; exact hm) r hf g2 h
end
end DL
set_option Elab.async false
set_option linter.all false
set_option maxRecDepth 100000
set_option autoImplicit false
/-! DL, part 9: defs, calls, methods, comprehensions and loops over a context told by its facts. -/
namespace DL
open PySem L2
section
variable {P : Program} {w : World} {K : PySem.W.Frag} {mg : Str → Option Value} {base : Heap}
theorem dx_of {N Vn L G ps : List Str} {x qual : Str} {st : Stmt} {f : Addr} {k : Nat} {CX : CXT} {cdv : Value} {Ar : Around} {outer : List Env} {s : Shared} {H : Hp} {E : XK} (S : FnScope N ps (defScope st))
    (hv : ∀ x ∈ Vn, VisOk (defScope st) x = true) (hl : ∀ x ∈ L, LocOk (defScope st) x = true) (hg : ∀ x ∈ G, GlOk (defScope st) x = true) (hr : Room k (Ar.deeper (PyProof.Rows.envOfC qual (defScope st) s.heap.objs.size f cdv))) :
    DX (cxOf CX P w K mg base N qual (defScope st) f cdv Ar outer s H E) P w K mg base N Vn L G (defScope st) k :=
  ⟨rfl, rfl, rfl, rfl, rfl, rfl, S.nd, rfl, hv, hl, fun _ _ => rfl, hg, rfl, hr, L2.passes_of (X := cxOf CX P w K mg base N qual (defScope st) f cdv Ar outer s H E) rfl⟩
theorem Fun.okD2 {x qual : Str} {st : Stmt} {f : Addr} {fd : FuncData} {N Vn L G ps : List Str} {k : Nat} {A : List D → (D → Prop) → Prop} (Fn : Fun K x qual st f fd) (S : FnScope N ps (defScope st))
    (hv : ∀ x ∈ Vn, VisOk (defScope st) x = true) (hl : ∀ x ∈ L, LocOk (defScope st) x = true) (hg : ∀ x ∈ G, GlOk (defScope st) x = true)
    (hb : ∀ (X : Cx) (ds : List D) (Q : D → Prop), DX X P w K mg base N Vn L G (defScope st) k → ds.length = ps.length → A ds Q → WSs X none (envOf N ds) (defBody st) { nx := fun _ => Q .non, rt := fun d _ => Q d }) :
    FnOk P w K mg base (L2.CX P w) (k + 1) f fd ps (spD K none ps.length A) :=
  Fun.okD Fn S fun cdv Ar outer s H E ds Q hr h1 h2 => hb _ ds Q (dx_of (x := x) S hv hl hg hr) h1 h2
theorem Fun.okB2 {x qual : Str} {st : Stmt} {f : Addr} {fd : FuncData} {N Vn L G ps : List Str} {k : Nat} {A : List D → (D → Prop) → Prop} (Fn : Fun K x qual st f fd) (S : FnScope N ps (defScope st))
    (hv : ∀ x ∈ Vn, VisOk (defScope st) x = true) (hl : ∀ x ∈ L, LocOk (defScope st) x = true) (hg : ∀ x ∈ G, GlOk (defScope st) x = true)
    (hb : ∀ (X : Cx) (b : Mem) (ds : List D) (Q : D → Prop), DX X P w K mg base N Vn L G (defScope st) k → ds.length + 1 = ps.length → A ds Q → WSs X (some b) (envOf N (.ref b :: ds)) (defBody st) { nx := fun _ => Q .non, rt := fun d _ => Q d }) :
    FnOk P w K mg base (L2.CX P w) (k + 1) f fd ps (spB K ps.length A) :=
  Fun.okB Fn S fun cdv Ar outer s H E b ds Q hr h1 h2 => hb _ b ds Q (dx_of (x := x) S hv hl hg hr) h1 h2
theorem Fun.okDraw2 {x qual : Str} {st : Stmt} {f : Addr} {fd : FuncData} {N Vn L G ps : List Str} {k : Nat} (Fn : Fun K x qual st f fd) (S : FnScope N ps (defScope st)) (hps : ps.length = 2)
    (hv : ∀ x ∈ Vn, VisOk (defScope st) x = true) (hl : ∀ x ∈ L, LocOk (defScope st) x = true) (hg : ∀ x ∈ G, GlOk (defScope st) x = true)
    (hb : ∀ (X : Cx) (n : Int) (ns : List Int) (i : Nat) (q g c : Int) (Q : D → Prop), DX X P w K mg base N Vn L G (defScope st) k →
      1 ≤ n → n < 2 ^ 4000 → 0 ≤ q → q.natAbs < 2 ^ 1100000 → (∀ z ∈ ns, z.natAbs < 2 ^ 1090000) → (∀ r : Int, 0 ≤ r → r < n → Q (.int r)) →
      ∀ b l : Addr, WSs X none (some (.own b (.lst (bagD l ns i q g c))) :: some (.frz (.int n)) :: List.replicate (N.length - 2) none) (defBody st)
        { nx := fun _ => False, rt := fun d env => (∃ (i : Nat) (q g c : Int), env[0]? = some (some (.own b (.lst (bagD l ns i q g c)))) ∧ 0 ≤ q ∧ q.natAbs < 2 ^ 1100000) ∧ ∃ r : Int, d = .int r ∧ Q d }) :
    FnOk P w K mg base (L2.CX P w) (k + 1) f fd ps (spB K 2 A_draw) :=
  Fun.okDraw Fn S hps fun cdv Ar outer s H E n ns i q g c Q hr h1 h2 h3 h4 h5 h6 b l => hb _ n ns i q g c Q (dx_of (x := x) S hv hl hg hr) h1 h2 h3 h4 h5 h6 b l
/-- the def at its name in the module: all that a call of it asks -/
structure FnAt (P : Program) (w : World) (K : PySem.W.Frag) (mg : Str → Option Value) (base : Heap) (x : Str) (k : Nat) (ps : List Str) (sp : Sp) : Prop where
  ex : ∃ f fd, FnOk P w K mg base (L2.CX P w) k f fd ps sp ∧ mg x = some (.ref f) ∧ PySem.W.keepIn K (.ref f) = true ∧ Binds K fd ps []
/-- a method of the class at C -/
structure MeAt (P : Program) (w : World) (K : PySem.W.Frag) (mg : Str → Option Value) (base : Heap) (C : Addr) (x : Str) (k : Nat) (ps : List Str) (sp : Sp) : Prop where
  ex : ∃ f fd, FnOk P w K mg base (L2.CX P w) k f fd ps sp ∧ Meth K C x f ∧ Binds K fd ps []
end
section
variable {X : Cx} {P : Program} {w : World} {K : PySem.W.Frag} {mg : Str → Option Value} {base : Heap} {N Vn L G B : List Str} {S : Scope} {k k2 n : Nat} {x : Str} {i j j2 : Nat}
variable {m : Option Mem} {env : Ev} {a b c e iter elt o tg : Expr} {es : List Expr} {Q : D → Prop} {pos p2 p3 p4 pr : Pos} {R : DEnds} {rest body els : List Stmt} {ps : List Str} {A : List D → (D → Prop) → Prop} {C : Addr}
theorem dl_pure (dx : DX X P w K mg base N Vn L G S k) (F : FnAt P w K mg base x k2 ps (spD K none n A)) (h3 : At G j x) (hk : k2 ≤ k) (he : starEach (e :: es) X.env = (false, eval e X.env) :: starEach es X.env) (hpl : (backTo pos (starEach es X.env)).any (·.1) = false)
    (hw : WA X m env (e :: es) fun ds => ds.length = n ∧ A ds Q) : WE X m env (.Call (.Name x p2) (e :: es) [] pos) Q := by
  obtain ⟨f, fd, Fn, hm, hkp, hb⟩ := F.ex
  obtain ⟨g1, g2, g3⟩ := dx.g h3
  obtain rfl := dx.prog
  obtain rfl := dx.w_
  obtain rfl := dx.K_
  obtain rfl := dx.mg_
  obtain rfl := dx.base_
  exact we_pure Fn (dx.room.mono hk) g1 hm hkp hb g2 he hpl hw
theorem dl_bag {bg : Mem} (dx : DX X P w K mg base N Vn L G S k) (F : FnAt P w K mg base x k2 ps (spB K n A)) (h3 : At G j x) (hk : k2 ≤ k) (he : starEach (e :: es) X.env = (false, eval e X.env) :: starEach es X.env) (hpl : (backTo pos (starEach es X.env)).any (·.1) = false)
    (hw : WA X (some bg) env (e :: es) fun ds => ds.length = n ∧ ∃ es, ds = .ref bg :: es ∧ A es Q) : WE X (some bg) env (.Call (.Name x p2) (e :: es) [] pos) Q := by
  obtain ⟨f, fd, Fn, hm, hkp, hb⟩ := F.ex
  obtain ⟨g1, g2, g3⟩ := dx.g h3
  obtain rfl := dx.prog
  obtain rfl := dx.w_
  obtain rfl := dx.K_
  obtain rfl := dx.mg_
  obtain rfl := dx.base_
  exact we_bag Fn (dx.room.mono hk) g1 hm hkp hb g2 he hpl hw
theorem names_none {gs : List (Str × V)} {fs : List (Str × D)} {f : Str} (h : gs.map (·.1) = fs.map (·.1)) (hl : fs.lookup f = none) : gs.lookup f = none := by
  induction gs generalizing fs with
  | nil => rfl
  | cons g gs ih =>
    cases fs with
    | nil => cases h
    | cons p fs =>
      obtain ⟨gn, gv⟩ := g
      obtain ⟨pn, pd⟩ := p
      rw [List.map_cons, List.map_cons] at h
      injection h with e1 e2
      simp only at e1
      subst e1
      rw [List.lookup_cons] at hl ⊢
      cases hb : (f == gn) with
      | true => rw [hb] at hl; cases hl
      | false => rw [hb] at hl; exact ih e2 hl
/-- o.m(e, ..), a method that changes nothing -/
theorem dl_meth {pl : Sem Bool} {apos : Pos} (dx : DX X P w K mg base N Vn L G S k) (c : Cls K C) (F : MeAt P w K mg base C x k2 ps (spD K none n A)) (hk : k2 ≤ k)
    (he : starEach (e :: es) X.env = (false, eval e X.env) :: starEach es X.env) (hpl : (backTo pos (starEach es X.env)).any (·.1) = false)
    (ht : eval (.Call (.Attribute o x apos) (e :: es) [] pos) X.env = (do
      let ov ← eval o X.env
      standAt apos.atName
      let (f, first) ← holding [ov] (getMethod ov x pl)
      callWith pos f first (backTo pos (starEach (e :: es) X.env)) (backToKw pos (keywordEach [] X.env))))
    (hw : WE X m env o fun d => ∃ fs, d = .ins C fs ∧ fs.lookup x = none ∧ WA X m env (e :: es) fun ds => ds.length + 1 = n ∧ A (d :: ds) Q) : WE X m env (.Call (.Attribute o x apos) (e :: es) [] pos) Q := by
  obtain ⟨f, fd, Fn, hm, hb⟩ := F.ex
  obtain rfl := dx.prog
  obtain rfl := dx.w_
  obtain rfl := dx.K_
  obtain rfl := dx.mg_
  obtain rfl := dx.base_
  refine ⟨fun σ H0 F H kk g ev t => tec (pe_meth pe_can c hm Fn (dx.room.mono hk) hb .nil passL pa_can he hpl ht) ?_⟩
  refine hw.run σ H0 F H _ g ev fun v d F1 H1 s1 hv q => ?_
  obtain ⟨fs, rfl, hl, hq⟩ := q
  have hv0 := hv
  cases hv with
  | ins h1 h2 h3 =>
    rename_i ad dd gs
    refine ⟨ad, dd, gs, rfl, s1.good.sub _ _ h1, names_none h2 hl, ?_⟩
    refine hq.run σ H0 F1 H1 _ s1.good (ev.step s1) fun vs ds F2 H2 s2 hvs q => ?_
    rw [List.append_nil]
    exact ⟨by show vs.length + 1 = n; rw [hvs.length]; exact q.1, F2, _, Q, s2.good.any, .cons (hv0.mono s2.fs) hvs, q.2, fun v d F3 H3 s3 hv hP => ((t.after s1).after s2) v d F3 H3 (s3.any s2.good) hv hP⟩
theorem dl_meth0 {pl : Sem Bool} {apos : Pos} (dx : DX X P w K mg base N Vn L G S k) (c : Cls K C) (F : MeAt P w K mg base C x k2 ps (spD K none n A)) (hk : k2 ≤ k)
    (ht : eval (.Call (.Attribute o x apos) [] [] pos) X.env = (do
      let ov ← eval o X.env
      standAt apos.atName
      let (f, first) ← holding [ov] (getMethod ov x pl)
      callWith pos f first (backTo pos (starEach [] X.env)) (backToKw pos (keywordEach [] X.env))))
    (hw : WE X m env o fun d => ∃ fs, d = .ins C fs ∧ fs.lookup x = none ∧ 1 = n ∧ A [d] Q) : WE X m env (.Call (.Attribute o x apos) [] [] pos) Q := by
  obtain ⟨f, fd, Fn, hm, hb⟩ := F.ex
  obtain rfl := dx.prog
  obtain rfl := dx.w_
  obtain rfl := dx.K_
  obtain rfl := dx.mg_
  obtain rfl := dx.base_
  refine ⟨fun σ H0 F H kk g ev t => tec (pe_meth0 pe_can c hm Fn (dx.room.mono hk) hb .nil passL ht) ?_⟩
  refine hw.run σ H0 F H _ g ev fun v d F1 H1 s1 hv q => ?_
  obtain ⟨fs, rfl, hl, hn, hq⟩ := q
  have hv0 := hv
  cases hv with
  | ins h1 h2 h3 =>
    rename_i ad dd gs
    refine ⟨ad, dd, gs, rfl, s1.good.sub _ _ h1, names_none h2 hl, ?_⟩
    exact ⟨hn, F1, _, Q, s1.good.any, .cons hv0 .nil, hq, fun v d F3 H3 s3 hv hP => (t.after s1) v d F3 H3 (s3.any s1.good) hv hP⟩
/-! ### comprehensions -/
theorem blk_dx {scope : Scope} {Vc Gc : List Str} (dx : DX X P w K mg base N Vn L G S k) (hv : ∀ x ∈ Vc, VisOk (relS scope S) x = true) (hg : ∀ x ∈ Gc, GlOk (relS scope S) x = true) (s : Shared) (H : Hp) (C : Addr) (cl : List (Str × Addr)) (fp : List Addr) :
    DX (X.blk s H scope (compEnvC scope cl C X.env) fp) P w K mg base N Vc [] Gc (relS scope S) k :=
  ⟨dx.prog, dx.w_, dx.K_, dx.mg_, dx.base_, dx.N_, dx.nd, by rw [← dx.S_]; rfl, hv, fun _ h => by simp at h, fun _ h => by simp at h, hg, dx.calm, dx.room, PassesOwn.never⟩
theorem blk_pg {scope : Scope} {t : Nat} (dx : DX X P w K mg base N Vn L G S k) (h1 : At N t x) (hx : LocOk scope x = true) (s : Shared) (H : Hp) (C : Addr) (cl : List (Str × Addr)) (fp : List Addr) :
    PG (X.blk s H scope (compEnvC scope cl C X.env) fp) (.Name x p2) (gName t) := by
  have dx' := blk_dx (Vc := []) (Gc := []) (scope := scope) dx (fun _ h => by simp at h) (fun _ h => by simp at h) s H C cl fp
  unfold LocOk at hx
  have hl : scope.names.lookup x = some .local ∨ scope.names.lookup x = some .cell := by
    cases e : scope.names.lookup x with
    | none => rw [e] at hx; cases hx
    | some kd =>
      rw [e] at hx
      cases kd <;> first | exact .inl rfl | exact .inr rfl | cases hx
  have hl2 : (relS scope S).names.lookup x = some .local ∨ (relS scope S).names.lookup x = some .cell := by
    rcases hl with hl | hl
    · exact .inl (lookup_relS_keep (by decide) hl)
    · exact .inr (lookup_relS_keep (by decide) hl)
  refine pg_name (X := X.blk s H scope (compEnvC scope cl C X.env) fp) dx.ndX (dx.n h1) (by unfold L2.Loc; rw [dx'.S_]; exact hl2) ?_
  rw [dx'.S_]
  rcases hl with hl | hl
  · exact .inr (lookup_relS_keep (by decide) hl)
  · refine .inl ?_
    show (scope.names.lookup x == some .cell) = true
    rw [hl]
    rfl
theorem dl_comp (t : Nat) (own : List (Str × Nat)) (Vc Gc : List Str) {scope : Scope} (dx : DX X P w K mg base N Vn L G S k) (ok : blkC N S scope own = true) (hown : own.map (·.2) = [t]) (h1 : At N t x) (hx : LocOk scope x = true) (hv : ∀ x ∈ Vc, VisOk (relS scope S) x = true) (hg : ∀ x ∈ Gc, GlOk (relS scope S) x = true)
    (hs : ∀ y, foldedSetIterable iter X.env y = pure y) {Q : List D → Prop}
    (hw : WE X m env iter fun x => asLst x fun ds => ds.length ≤ 1000000 ∧ ∃ Pi : Nat → D → Prop, (∀ (i : Nat) (d : D), ds[i]? = some d → ∀ X', DX X' P w K mg base N Vc [] Gc (relS scope S) k → X'.K = X.K → WE X' m ((env.set t none).set t (some (.frz d))) elt (Pi i)) ∧ ∀ es : List D, es.length = ds.length → (∀ (i : Nat) (e : D), es[i]? = some e → Pi i e) → Q es) :
    WL X m env (.ListComp elt [⟨.Name x p2, iter, [], 0⟩] scope pos) Q := by
  refine wl_comp t own hown dx.calm dx.ndX (by rw [dx.N_, dx.S_]; exact blkOk_by ok) (blk_pg dx h1 hx) hs (hw.mono fun d q => ?_)
  cases d <;> first | exact q.elim | skip
  obtain ⟨hz, Pi, h2, h3⟩ := q
  exact ⟨hz, Pi, fun i d hd => ⟨fun s H C cl fp => h2 i d hd _ (blk_dx dx hv hg s H C cl fp) rfl⟩, h3⟩
theorem dl_compR (t : Nat) (own : List (Str × Nat)) (Vc Gc : List Str) {scope : Scope} (dx : DX X P w K mg base N Vn L G S k) (bn : NoMg mg B) (ok : blkC N S scope own = true) (hown : own.map (·.2) = [t]) (h1 : At N t x) (hx : LocOk scope x = true) (hv : ∀ x ∈ Vc, VisOk (relS scope S) x = true) (hg : ∀ x ∈ Gc, GlOk (relS scope S) x = true)
    (h3 : At G j "range") (h4 : At B j2 "range") (hst : starEach [a] X.env = [(false, eval a X.env)]) (hs : ∀ y, foldedSetIterable (.Call (.Name "range" p3) [a] [] pr) X.env y = pure y) {Q : List D → Prop}
    (hw : WE X m env a fun x => asInt x fun n => (-1000000 ≤ n ∧ n ≤ 1000000) ∧ ∃ Pi : Nat → D → Prop, (∀ (i : Nat), (i : Int) < n → ∀ X', DX X' P w K mg base N Vc [] Gc (relS scope S) k → X'.K = X.K → WE X' m ((env.set t none).set t (some (.frz (.int i)))) elt (Pi i)) ∧ ∀ es : List D, es.length = n.toNat → (∀ (i : Nat) (e : D), es[i]? = some e → Pi i e) → Q es) :
    WL X m env (.ListComp elt [⟨.Name x p2, .Call (.Name "range" p3) [a] [] pr, [], 0⟩] scope pos) Q := by
  refine wl_compR t own hown dx.calm dx.ndX (by rw [dx.N_, dx.S_]; exact blkOk_by ok) (blk_pg dx h1 hx) (dx.g h3).1 (dx.b bn h4) hst hs (hw.mono fun d q => ?_)
  cases d <;> first | exact q.elim | skip
  obtain ⟨hz, Pi, h2, h3⟩ := q
  exact ⟨hz, Pi, fun i hd => ⟨fun s H C cl fp => h2 i hd _ (blk_dx dx hv hg s H C cl fp) rfl⟩, h3⟩
/-! ### loops -/
theorem dl_forL (t : Nat) (dx : DX X P w K mg base N Vn L G S k) (h1 : At N t x) (h2 : At L j x) (hs : ∀ y, foldedSetIterable iter X.env y = pure y)
    (h : WE X m env iter fun d => asLst d fun ds => ∃ I : Nat → Ev → Prop, I 0 env ∧
      (∀ (i : Nat) (d : D) (env' : Ev), ds[i]? = some d → I i env' → WSs X m (env'.set t (some (.frz d))) body { nx := I (i + 1), ct := I (i + 1), bk := R.nx, rt := R.rt, ex := R.ex, ro := R.ro }) ∧ ∀ env', I ds.length env' → R.nx env') :
    WS X m env (.For (.Name x p2) iter body [] pos) R :=
  let ⟨l1, l2⟩ := dx.l h2; ws_forL t dx.pass dx.calm dx.ndX (dx.n h1) l1 l2 hs h
theorem dl_forR (t : Nat) (dx : DX X P w K mg base N Vn L G S k) (bn : NoMg mg B) (h1 : At N t x) (h2 : At L j x) {j3 j4 : Nat} (h3 : At G j3 "range") (h4 : At B j4 "range") (hst : starEach [a] X.env = [(false, eval a X.env)])
    (hs : ∀ y, foldedSetIterable (.Call (.Name "range" p3) [a] [] pr) X.env y = pure y)
    (h : WE X m env a fun d => asInt d fun n => (-1000000000 ≤ n ∧ n ≤ 1000000000) ∧ ∃ I : Nat → Ev → Prop, I 0 env ∧
      (∀ (i : Nat) (env' : Ev), (i : Int) < n → I i env' → WSs X m (env'.set t (some (.frz (.int i)))) body { nx := I (i + 1), ct := I (i + 1), bk := R.nx, rt := R.rt, ex := R.ex, ro := R.ro }) ∧ ∀ env', I n.toNat env' → R.nx env') :
    WS X m env (.For (.Name x p2) (.Call (.Name "range" p3) [a] [] pr) body [] pos) R :=
  let ⟨l1, l2⟩ := dx.l h2; ws_forR t dx.pass dx.calm dx.ndX (dx.n h1) l1 l2 (dx.g h3).1 (dx.b bn h4) hst hs h
end
section
variable {X : Cx} {m : Option Mem} {env : Ev} {R : DEnds} {st : Stmt} {rest : List Stmt}
/-- what holds between two statements -/
theorem wss_cut (J : Ev → Prop) (h1 : WS X m env st { R with nx := J }) (h2 : ∀ env', J env' → WSs X m env' rest R) : WSs X m env (st :: rest) R :=
  wss_cons ⟨fun σ F0 H0 Fl F H De W s o => h1.run σ F0 H0 Fl F H De W s ⟨fun σ' env' F' H' s' q => o.nx σ' env' F' H' s' (h2 env' q), o.rt, o.bk, o.ct, o.tk, o.ex, o.ro⟩⟩
theorem ite_d {p : Prop} [Decidable p] {A B : Prop} (h1 : p → A) (h2 : ¬ p → B) : if decide p = true then A else B := by
  by_cases h : p
  · rw [if_pos (decide_eq_true h)]; exact h1 h
  · rw [if_neg (by rw [decide_eq_false h]; exact Bool.false_ne_true)]; exact h2 h
theorem ite_nd {p : Prop} [Decidable p] {A B : Prop} (h1 : ¬ p → A) (h2 : p → B) : if (!decide p) = true then A else B := by
  by_cases h : p
  · rw [if_neg (by rw [decide_eq_true h]; exact Bool.false_ne_true)]; exact h2 h
  · rw [if_pos (by rw [decide_eq_false h]; rfl)]; exact h1 h
theorem ite_t {A B : Prop} (h : A) : if true = true then A else B := by rw [if_pos rfl]; exact h
theorem ite_f {A B : Prop} (h : B) : if false = true then A else B := by rw [if_neg Bool.false_ne_true]; exact h
theorem ite_b {b : Bool} {A B : Prop} (h1 : b = true → A) (h2 : b = false → B) : if b = true then A else B := by
  cases b with
  | true => exact ite_t (h1 rfl)
  | false => exact ite_f (h2 rfl)
end
end DL
set_option Elab.async false
set_option linter.all false
set_option maxRecDepth 100000
set_option autoImplicit false
/-! DL, part 10: instances: made, their attributes stored, their special methods. -/
namespace DL
open PySem L2
def putD (f : Str) (d : D) : List (Str × D) → List (Str × D)
  | [] => [(f, d)]
  | (g, x) :: r => if g = f then (g, d) :: r else (g, x) :: putD f d r
theorem put_names (f : Str) (v : V) (d : D) : ∀ {gs : List (Str × V)} {fs : List (Str × D)}, gs.map (·.1) = fs.map (·.1) → (putF f v gs).map (·.1) = (putD f d fs).map (·.1)
  | [], [], _ => rfl
  | [], _ :: _, h => by cases h
  | _ :: _, [], h => by cases h
  | (gn, gv) :: gs, (pn, pd) :: fs, h => by
    rw [List.map_cons, List.map_cons] at h
    injection h with e1 e2
    simp only at e1
    subst e1
    unfold putF putD
    by_cases hf : gn = f
    · rw [if_pos hf, if_pos hf, List.map_cons, List.map_cons, e2]
    · rw [if_neg hf, if_neg hf, List.map_cons, List.map_cons, put_names f v d e2]
theorem put_all {K : PySem.W.Frag} {F : Hp} (f : Str) {v : V} {d : D} (hv : Is K F v d) : ∀ {gs : List (Str × V)} {fs : List (Str × D)}, gs.map (·.1) = fs.map (·.1) → IsAll K F (gs.map (·.2)) (fs.map (·.2)) → IsAll K F ((putF f v gs).map (·.2)) ((putD f d fs).map (·.2))
  | [], [], _, _ => .cons hv .nil
  | [], _ :: _, h, _ => by cases h
  | _ :: _, [], h, _ => by cases h
  | (gn, gv) :: gs, (pn, pd) :: fs, h, a => by
    rw [List.map_cons, List.map_cons] at h a
    injection h with e1 e2
    simp only at e1
    subst e1
    cases a with
    | cons a1 a2 =>
      unfold putF putD
      by_cases hf : gn = f
      · rw [if_pos hf, if_pos hf]; exact .cons hv a2
      · rw [if_neg hf, if_neg hf]; exact .cons a1 (put_all f hv e2 a2)
section
variable {X : Cx} {P : Program} {w : World} {K : PySem.W.Frag} {mg : Str → Option Value} {base : Heap} {N Vn L G B : List Str} {S : Scope} {k k2 n : Nat} {x f : Str} {i j j2 : Nat}
variable {m : Option Mem} {env : Ev} {a b c e iter elt o tg : Expr} {es : List Expr} {Q : D → Prop} {pos p2 p3 p4 pr : Pos} {R : DEnds} {rest body els : List Stmt} {ps : List Str} {C : Addr}
/-- self.f = e while the instance is being made -/
theorem dl_setFld (dx : DX X P w K mg base N Vn L G S k) (h1 : At N i x) (h2 : At Vn j x) {q0 : Addr} {fs : List (Str × D)} (he : env[i]? = some (some (.own q0 (.obj C fs)))) (hs : swapsWith e (some (.Attribute (.Name x p2) f p3)) pos.line X.env = pure false)
    (hc : Cls K C) (hn : NoAttr K C f) (hl : fs.length < 1000) (h : WE X m env e fun d => R.nx (env.set i (some (.own q0 (.obj C (putD f d fs)))))) : WS X m env (.Assign [.Attribute (.Name x p2) f p3] e pos) R := by
  obtain ⟨v, d1, d2⟩ := dx.v h2
  obtain rfl := dx.K_
  refine ⟨fun σ F0 H0 Fl F H De W s o => tsc (ps_fld (pe_var (dx.n h1) v d1 d2) pe_can hs) ?_⟩
  obtain ⟨v, hσ, ho, rfl, hm, hF, h0, hH, da, gs, rfl, hnm, ha⟩ := s.env.at_ i _ he
  refine h.run σ H0 F H _ s.good s.env fun v d F1 H1 s1 hv q => ?_
  have hH1 := s1.keep q0 _ hm hH
  have hF1 := s1.noF hF ⟨_, hH⟩
  refine ⟨.ref q0, hσ, q0, C, da, gs, rfl, hH1, hc, hn, ?_, ?_⟩
  · have e := congrArg List.length hnm
    rw [List.length_map, List.length_map] at e
    omega
  · exact o.nx _ _ F1 _ ⟨(s.step.trans s1).mut hF1 hm h0, (s.env.step s1).mut he (.ofO (put_names f v d hnm) (put_all f hv hnm (ha.mono s1.fs))), s.fl.trans s1.fs⟩ q
end
/-- what an __init__ promises: A tells of the arguments which attributes there are behind it -/
def spI (K : PySem.W.Frag) (C : Addr) (n : Nat) (A : List D → (List (Str × D) → Prop) → Prop) : Sp := fun vs H Q _ => vs.length = n + 1 ∧ ∃ x ws F ds P, vs = .ref x :: ws ∧ Good K none F H ∧ F x = none ∧ (∃ dx, H x = some (.ins C dx [])) ∧ IsAll K F ws ds ∧ A ds P ∧
  ∀ F' H' dx gs fs, Same F F' → Good K none F' H' → F' x = none → (∀ a, F a = none → F' a ≠ none → H a = none) → (∀ a o, a ≠ x → H a = some o → H' a = some o) → H' x = some (.ins C dx gs) → gs.map (·.1) = fs.map (·.1) → IsAll K F' (gs.map (·.2)) (fs.map (·.2)) → P fs → Q .non H'
section
variable {P : Program} {w : World} {K : PySem.W.Frag} {mg : Str → Option Value} {base : Heap}
theorem Fun.okInit {x qual : Str} {st : Stmt} {f C : Addr} {fd : FuncData} {N Vn L G ps : List Str} {k n : Nat} {A : List D → (List (Str × D) → Prop) → Prop} (Fn : Fun K x qual st f fd) (S : FnScope N ps (defScope st)) (hps : ps.length = n + 1)
    (hv : ∀ x ∈ Vn, VisOk (defScope st) x = true) (hl : ∀ x ∈ L, LocOk (defScope st) x = true) (hg : ∀ x ∈ G, GlOk (defScope st) x = true)
    (hb : ∀ (X : Cx) (q0 : Addr) (ds : List D) (Q : List (Str × D) → Prop), DX X P w K mg base N Vn L G (defScope st) k → ds.length = n → A ds Q →
      WSs X none (some (.own q0 (.obj C [])) :: (ds.map fun d => some (.frz d)) ++ List.replicate (N.length - (n + 1)) none) (defBody st)
        { nx := fun env => ∃ fs, env[0]? = some (some (.own q0 (.obj C fs))) ∧ Q fs, rt := fun _ _ => False }) :
    FnOk P w K mg base (L2.CX P w) (k + 1) f fd ps (spI K C n A) := by
  refine Fn.okX S (fun vs H Q E h => by rw [hps]; exact h.1) fun cdv Ar outer s H vs Q E hr h => ⟨_, pss_can, ?_⟩
  obtain ⟨hlen, b, ws, F, ds, Q', rfl, g, hFb, ⟨db, hH⟩, ha, hA, t⟩ := h
  have hd : ds.length = n := by rw [← ha.length]; simpa using hlen
  let H0 : Hp := fun a => if a = b then none else H a
  have h0b : H0 b = none := if_pos rfl
  have h0 : ∀ a, a ≠ b → H0 a = H a := fun a h => if_neg h
  have hst : (some (.own b (.obj C [])) :: (ds.map fun d => some (.frz d)) ++ List.replicate (N.length - (n + 1)) none : Ev) = (envOf N (.ref b :: ds)).set 0 (some (.own b (.obj C []))) := by
    unfold envOf
    simp [hd]
  have e0 : Envs K none H F H (L2.start N (.ref b :: ws)) (envOf N (.ref b :: ds)) := envs_start (.cons (.ref b) ha)
  have start : Sta K none F H0 F F H (L2.start N (.ref b :: ws)) (some (.own b (.obj C [])) :: (ds.map fun d => some (.frz d)) ++ List.replicate (N.length - (n + 1)) none) := by
    rw [hst]
    have frz : ∀ (j : Nat) (s : Slot), (envOf N (.ref b :: ds))[j]? = some (some s) → ∃ d, s = .frz d := fun j s e => by
      unfold envOf at e
      rcases Nat.lt_or_ge j (D.ref b :: ds).length with hi | hi
      · rw [List.getElem?_append_left (by simpa using hi), List.getElem?_map] at e
        cases e1 : (D.ref b :: ds)[j]? with
        | none => rw [e1] at e; cases e
        | some d => rw [e1] at e; cases e; exact ⟨d, rfl⟩
      · rw [List.getElem?_append_right (by simpa using hi)] at e
        have := List.eq_of_mem_replicate (List.mem_of_getElem? e)
        cases this
    refine ⟨⟨Same.refl _, g, fun a h1 h2 => absurd h1 h2, fun a o _ h => ?_⟩, ⟨fun j s e => ?_, by rw [List.length_set]; exact e0.len, fun j k ds' es p hjk e1 e2 => ?_, e0.apt.put (fun j t a _ e ha => by obtain ⟨d, rfl⟩ := frz j t e; cases ha) fun j t a _ e ha => nomatch ha⟩, Same.refl _⟩
    · by_cases hab : a = b
      · subst hab; rw [h0b] at h; cases h
      · rw [h0 a hab] at h; exact h
    · rcases set_at e with ⟨rfl, hl, e⟩ | ⟨hij, e⟩
      · cases e
        exact ⟨.ref b, rfl, _, rfl, (fun z => nomatch z), hFb, h0b, hH, db, [], rfl, rfl, .nil⟩
      · obtain ⟨d, rfl⟩ := frz j s e
        obtain ⟨v, h1, h2⟩ := e0.at_ j _ e
        exact ⟨v, h1, h2⟩
    · rcases set_at e1 with ⟨rfl, hl, e⟩ | ⟨hij, e⟩
      · rcases set_at e2 with ⟨z, _, _⟩ | ⟨_, e⟩
        · exact hjk z
        · obtain ⟨d, z⟩ := frz k _ e; cases z
      · obtain ⟨d, z⟩ := frz j _ e; cases z
  refine (hb _ b ds Q' (dx_of (x := x) S hv hl hg hr) hd hA).run _ F H0 F F H _ (fun _ _ _ _ => False) start ?_
  refine ⟨fun σ env F' H' s' q => ?_, fun _ _ _ _ _ _ _ _ z => z.elim, fun _ _ _ _ _ z => z.elim, fun _ _ _ _ _ z => z.elim, takes0, fun _ _ _ _ _ _ _ _ _ z => z.elim, fun _ _ _ _ _ _ _ _ _ z => z.elim⟩
  obtain ⟨fs, he, q⟩ := q
  obtain ⟨v0, hσ0, ho, rfl, _, hFp, _, hHp, da, gs, rfl, hn, hap⟩ := s'.env.at_ 0 _ he
  refine t F' H' da gs fs s'.step.fs s'.step.good hFp (fun a h1 h2 => ?_) (fun a o hab ho => ?_) hHp hn hap q
  · by_cases hab : a = b
    · subst hab; exact absurd hFp h2
    · rw [← h0 a hab]; exact s'.step.new a h1 h2
  · exact s'.step.keep a o (fun z => nomatch z) (by rw [h0 a hab]; exact ho)
end
/-- the class at its name: all that C(..) asks -/
structure MkAt (P : Program) (w : World) (K : PySem.W.Frag) (mg : Str → Option Value) (base : Heap) (x : Str) (C : Addr) (k : Nat) (ps : List Str) (sp : Sp) : Prop where
  ex : ∃ f fd, Mk K C f ∧ FnOk P w K mg base (L2.CX P w) k f fd ps sp ∧ Binds K fd ps [] ∧ mg x = some (.ref C)
section
variable {X : Cx} {P : Program} {w : World} {K : PySem.W.Frag} {mg : Str → Option Value} {base : Heap} {N Vn L G B : List Str} {S : Scope} {k k2 n : Nat} {x f : Str} {i j j2 : Nat}
variable {m : Option Mem} {env : Ev} {a b c e iter elt o tg : Expr} {es : List Expr} {Q : D → Prop} {pos p2 p3 p4 pr : Pos} {R : DEnds} {rest body els : List Stmt} {ps : List Str} {C : Addr} {A : List D → (D → Prop) → Prop}
theorem dl_make {A : List D → (List (Str × D) → Prop) → Prop} (dx : DX X P w K mg base N Vn L G S k) (F : MkAt P w K mg base x C k2 ps (spI K C n A)) (h3 : At G j x) (hk : k2 + 1 ≤ k) (he : starEach (e :: es) X.env = (false, eval e X.env) :: starEach es X.env) (hpl : (backTo pos (starEach es X.env)).any (·.1) = false)
    (hw : WA X m env (e :: es) fun ds => ds.length = n ∧ A ds fun fs => Q (.ins C fs)) : WE X m env (.Call (.Name x p2) (e :: es) [] pos) Q := by
  obtain ⟨f, fd, M, Fn, hb, hm⟩ := F.ex
  obtain ⟨g1, g2, g3⟩ := dx.g h3
  obtain rfl := dx.prog
  obtain rfl := dx.w_
  obtain rfl := dx.K_
  obtain rfl := dx.mg_
  obtain rfl := dx.base_
  refine ⟨fun σ H0 F H kk g ev t => tec (pe_make M Fn (dx.room.mono hk) g1 hm hb .nil passL pa_can g2 he hpl) ?_⟩
  refine hw.run σ H0 F H _ g ev fun vs ds F1 H1 s1 hvs q => ?_
  intro y dy hy hdy ne
  rw [List.append_nil]
  have hy2 : upd H1 dy (.own y) y = none := by rw [upd_ne ne.symm]; exact hy
  have t1 := s1.good.fresh (o := .own y) hdy
  have t2 := t1.good.fresh (o := .ins C dy []) hy2
  refine ⟨by show vs.length + 1 = n + 1; rw [hvs.length, q.1], y, vs, F1, ds, _, rfl, t2.good.any, s1.good.noF hy, ⟨dy, upd_same⟩, hvs, q.2, fun F' H' dx' gs fs sm g' hF' nw kp hH' hn ha hP => ⟨rfl, ?_⟩⟩
  have back : ∀ a, upd (upd H1 dy (.own y)) y (.ins C dy []) a = none → H1 a = none := fun a z => by
    by_cases ha : a = y
    · subst ha; exact hy
    · rw [upd_ne ha] at z
      by_cases hb : a = dy
      · subst hb; exact hdy
      · rw [upd_ne hb] at z; exact z
  have fwd : ∀ a o, H1 a = some o → upd (upd H1 dy (.own y)) y (.ins C dy []) a = some o := fun a o z => by
    rw [upd_ne (ne_of_none z hy), upd_ne (ne_of_none z hdy)]; exact z
  have kp2 : ∀ a o, H1 a = some o → H' a = some o := fun a o z => kp a o (ne_of_none z hy) (fwd a o z)
  have bagk : ∀ b, m = some b → (F' b.b = none ∧ F' b.l = none) ∧ BagOk X.K H' b := fun b hb => by
    obtain ⟨hF1, hB⟩ := s1.good.bag b hb
    obtain ⟨⟨u, hu⟩, u2, hu2⟩ := hB.some
    refine ⟨⟨?_, ?_⟩, hB.mono ((kp2 b.b u hu).trans hu.symm) ((kp2 b.l u2 hu2).trans hu2.symm)⟩
    · cases e : F' b.b with
      | none => rfl
      | some o => exact absurd (back b.b (nw b.b hF1.1 (by rw [e]; exact fun z => nomatch z))) (by rw [hu]; exact fun z => nomatch z)
    · cases e : F' b.l with
      | none => rfl
      | some o => exact absurd (back b.l (nw b.l hF1.2 (by rw [e]; exact fun z => nomatch z))) (by rw [hu2]; exact fun z => nomatch z)
  have g2' : Good X.K m F' H' := ⟨g'.sub, bagk⟩
  have hm' : ¬ Touch m y := s1.good.notm hy
  refine t _ _ (upd F' y (.ins C dx' gs)) H' (s1.trans ⟨sm.trans (same_upd hF'), g2'.freeze hF' hm' hH', fun a h1 h2 => ?_, fun a o _ z => kp2 a o z⟩) (.ins upd_same hn (ha.mono (same_upd hF'))) hP
  by_cases hay : a = y
  · subst hay; exact hy
  · rw [upd_ne hay] at h2; exact back a (nw a h1 h2)
/-- special methods -/
structure SpAt (P : Program) (w : World) (K : PySem.W.Frag) (mg : Str → Option Value) (base : Heap) (C : Addr) (x : Str) (k : Nat) (ps : List Str) (sp : Sp) : Prop where
  ex : ∃ f fd, FnOk P w K mg base (L2.CX P w) k f fd ps sp ∧ PySem.W.findIn K (.ref C) x = some (some (.ref f)) ∧ PySem.W.isFn K (.ref f) = true ∧ PySem.W.fnIn K f = true ∧ Binds K fd ps []
theorem r2_inO {neg : Bool} {x y : D} (hq : ∃ fs, y = .ins C fs ∧ 2 = n ∧ A [y, x] fun r => asBl r fun c => Q (.bl (if neg then !c else c))) : R2D K m (rInO C (spD K none n A) neg) x y Q := by
  obtain ⟨fs, rfl, hn, hA⟩ := hq
  refine ⟨fun F H v w kk g hv hw t => ?_⟩
  have hw0 := hw
  cases hw with
  | ins h1 h2 h3 =>
    rename_i ad dd gs
    refine ⟨ad, dd, gs, rfl, g.sub _ _ h1, hn, F, _, _, g.any, .cons hw0 (.cons hv .nil), hA, fun v d F' H' s hv hP => ?_⟩
    obtain ⟨c, rfl, rfl, hP⟩ := hv.asBl hP
    exact ⟨c, rfl, (t.after (s.any g)).at (s.any g).good (.bl _) hP⟩
theorem dl_inO (dx : DX X P w K mg base N Vn L G S k) (F : SpAt P w K mg base C "__contains__" k2 ps (spD K none n A)) (hk : k2 ≤ k) (hm : behindInMarks .In b = false)
    (hw : WE X m env a fun x => WE X m env b fun y => ∃ fs, y = .ins C fs ∧ 2 = n ∧ A [y, x] fun r => asBl r fun c => Q (.bl c)) : WE X m env (.Compare a [.In] [b] pos) Q := by
  obtain ⟨f, fd, Fn, hf, hi, _, hb⟩ := F.ex
  obtain rfl := dx.prog
  obtain rfl := dx.w_
  obtain rfl := dx.K_
  obtain rfl := dx.mg_
  obtain rfl := dx.base_
  exact we_tOp (pe_cmpR (op_inO hf hi Fn (dx.room.mono hk) hb) pe_can pe_can hm) rfl (hw.mono fun _ h => h.mono fun _ q => r2_inO (neg := false) q)
theorem dlt_notInO {Q : Bool → Prop} (dx : DX X P w K mg base N Vn L G S k) (F : SpAt P w K mg base C "__contains__" k2 ps (spD K none n A)) (hk : k2 ≤ k) (hm : behindInMarks .NotIn b = false)
    (hw : WE X m env a fun x => WE X m env b fun y => ∃ fs, y = .ins C fs ∧ 2 = n ∧ A [y, x] fun r => asBl r fun c => Q (!c)) : WT X m env (.Compare a [.NotIn] [b] pos) Q := by
  obtain ⟨f, fd, Fn, hf, hi, _, hb⟩ := F.ex
  obtain rfl := dx.prog
  obtain rfl := dx.w_
  obtain rfl := dx.K_
  obtain rfl := dx.mg_
  obtain rfl := dx.base_
  exact wt_cmp (op_notInO hf hi Fn (dx.room.mono hk) hb) hm (hw.mono fun _ h => h.mono fun _ q => r2_inO (neg := true) q)
theorem dlt_inO {Q : Bool → Prop} (dx : DX X P w K mg base N Vn L G S k) (F : SpAt P w K mg base C "__contains__" k2 ps (spD K none n A)) (hk : k2 ≤ k) (hm : behindInMarks .In b = false)
    (hw : WE X m env a fun x => WE X m env b fun y => ∃ fs, y = .ins C fs ∧ 2 = n ∧ A [y, x] fun r => asBl r fun c => Q c) : WT X m env (.Compare a [.In] [b] pos) Q := by
  obtain ⟨f, fd, Fn, hf, hi, _, hb⟩ := F.ex
  obtain rfl := dx.prog
  obtain rfl := dx.w_
  obtain rfl := dx.K_
  obtain rfl := dx.mg_
  obtain rfl := dx.base_
  exact wt_cmp (op_inO hf hi Fn (dx.room.mono hk) hb) hm (hw.mono fun _ h => h.mono fun _ q => r2_inO (neg := false) q)
/-- len(o) -/
theorem dl_lenO (dx : DX X P w K mg base N Vn L G S k) (bn : NoMg mg B) (F : SpAt P w K mg base C "__len__" k2 ps (spD K none n A)) (hk : k2 + 1 ≤ k) (h3 : At G j "len") (h4 : At B j2 "len") (hs : starEach [a] X.env = [(false, eval a X.env)])
    (hw : WE X m env a fun y => ∃ fs, y = .ins C fs ∧ 1 = n ∧ A [y] fun r => asInt r fun c => (0 ≤ c ∧ c < 2 ^ 63) ∧ Q (.int c)) : WE X m env (.Call (.Name "len" p2) [a] [] pos) Q := by
  obtain ⟨f, fd, Fn, hf, hi, _, hb⟩ := F.ex
  obtain rfl := dx.prog
  obtain rfl := dx.w_
  obtain rfl := dx.K_
  obtain rfl := dx.mg_
  obtain rfl := dx.base_
  refine dl_cb1 (call_lenO hf hi Fn (dx.room.mono hk) hb) PySem.boot_len dx bn h3 h4 hs (hw.mono fun y hq => ⟨fun F H vs kk g hvs t => ?_⟩)
  obtain ⟨fs, rfl, hn, hA⟩ := hq
  cases hvs with
  | cons hv hr =>
    cases hr
    have hv0 := hv
    cases hv with
    | ins h1 h2 h3 =>
      rename_i ad dd gs
      refine ⟨ad, dd, gs, rfl, g.sub _ _ h1, hn, F, _, _, g.any, .cons hv0 .nil, hA, fun v d F' H' s hv hP => ?_⟩
      obtain ⟨c, rfl, rfl, hc, hP⟩ := hv.asInt hP
      exact ⟨c, rfl, hc.1, hc.2, (t.after (s.any g)).at (s.any g).good (.int _) hP⟩
/-- o(e, ..) -/
theorem dl_callO (dx : DX X P w K mg base N Vn L G S k) (F : SpAt P w K mg base C "__call__" k2 ps (spD K none n A)) (hk : k2 ≤ k)
    (ht : eval (.Call o (e :: es) [] pos) X.env = (do callWith pos (← eval o X.env) [] (backTo pos (starEach (e :: es) X.env)) (backToKw pos (keywordEach [] X.env))))
    (he : starEach (e :: es) X.env = (false, eval e X.env) :: starEach es X.env) (hpl : (backTo pos (starEach es X.env)).any (·.1) = false)
    (hw : WE X m env o fun d => ∃ fs, d = .ins C fs ∧ WA X m env (e :: es) fun ds => ds.length + 1 = n ∧ A (d :: ds) Q) : WE X m env (.Call o (e :: es) [] pos) Q := by
  obtain ⟨f, fd, Fn, hf, hi, hfi, hb⟩ := F.ex
  obtain rfl := dx.prog
  obtain rfl := dx.w_
  obtain rfl := dx.K_
  obtain rfl := dx.mg_
  obtain rfl := dx.base_
  refine ⟨fun σ H0 F H kk g ev t => tec (StX.pe_callO pe_can ⟨hf, hi, hfi⟩ (Fn.raw hb .nil) (dx.room.mono hk) passL pa_can ht he hpl) ?_⟩
  refine hw.run σ H0 F H _ g ev fun v d F1 H1 s1 hv q => ?_
  obtain ⟨fs, rfl, hq⟩ := q
  have hv0 := hv
  cases hv with
  | ins h1 h2 h3 =>
    rename_i ad dd gs
    refine ⟨ad, rfl, ?_⟩
    refine hq.run σ H0 F1 H1 _ s1.good (ev.step s1) fun vs ds F2 H2 s2 hvs q => ?_
    refine ⟨.inr ⟨dd, gs, s2.good.sub _ _ (s2.fs _ _ h1)⟩, ?_⟩
    show spD X.K none n A ((V.ref ad :: vs) ++ []) H2 kk E0
    rw [List.append_nil]
    exact ⟨by show vs.length + 1 = n; rw [hvs.length]; exact q.1, F2, _, Q, s2.good.any, .cons (hv0.mono s2.fs) hvs, q.2, fun v d F3 H3 s3 hv hP => ((t.after s1).after s2) v d F3 H3 (s3.any s2.good) hv hP⟩
/-- o.f, a property -/
structure PrAt (P : Program) (w : World) (K : PySem.W.Frag) (mg : Str → Option Value) (base : Heap) (C : Addr) (x : Str) (k : Nat) (ps : List Str) (sp : Sp) : Prop where
  ex : ∃ p f fd, FnOk P w K mg base (L2.CX P w) k f fd ps sp ∧ PropOf K C x p f ∧ Binds K fd ps []
theorem dl_prop (dx : DX X P w K mg base N Vn L G S k) (c : Cls K C) (F : PrAt P w K mg base C x k2 ps (spD K none n A)) (hk : k2 + 1 ≤ k) (hab : attributeBase o x X.env (eval o X.env) = eval o X.env)
    (hw : WE X m env o fun d => ∃ fs, d = .ins C fs ∧ 1 = n ∧ A [d] Q) : WE X m env (.Attribute o x pos) Q := by
  obtain ⟨p, f, fd, Fn, hp, hb⟩ := F.ex
  obtain rfl := dx.prog
  obtain rfl := dx.w_
  obtain rfl := dx.K_
  obtain rfl := dx.mg_
  obtain rfl := dx.base_
  refine ⟨fun σ H0 F H kk g ev t => tec (pe_prop pe_can c hp Fn (dx.room.mono hk) hb .nil (passL (X := X.nox)) hab) ?_⟩
  refine hw.run σ H0 F H _ g ev fun v d F1 H1 s1 hv q => ?_
  obtain ⟨fs, rfl, hn, hq⟩ := q
  have hv0 := hv
  cases hv with
  | ins h1 h2 h3 =>
    rename_i ad dd gs
    exact ⟨ad, dd, gs, rfl, s1.good.sub _ _ h1, hn, F1, _, Q, s1.good.any, .cons hv0 .nil, hq, fun v d F3 H3 s3 hv hP => (t.after s1) v d F3 H3 (s3.any s1.good) hv hP⟩
end
end DL
set_option Elab.async false
set_option linter.all false
set_option maxRecDepth 100000
set_option autoImplicit false
set_option maxHeartbeats 2000000
/-! DLX, part 1: several except clauses that name the exception; errors without parts; a call, a making, whose errors are wished for at the slots. -/
namespace DL
open PySem L2 PySem.Spec PyProof.Rows
/-- one clause's end: its name is gone behind the suite -/
def aEnds (i : Nat) (D : Ends) : Ends := { nx := fun σ H => D.nx (σ.set i none) H, rt := D.rt, bk := fun σ H => D.bk (σ.set i none) H, ct := fun σ H => D.ct (σ.set i none) H }
abbrev Cls3 := Value × Nat × (Addr → Value → Option Addr → TS)
def wNamed (K : PySem.W.Frag) (Wout : WX) (D : Ends) : List Cls3 → WX
  | [] => Wout
  | q :: r => fun cls d σ H => ∃ b, PySem.W.exmOne K cls q.1 = some b ∧ (b = true → ∀ a, H a = none → q.2.2 a cls d (aEnds q.2.1 D) (σ.set q.2.1 (some (.ref a))) H) ∧ (b = false → wNamed K Wout D r cls d σ H)
inductive NamedOk (X : Cx) : List ExceptHandler → List Cls3 → Prop
  | nil : NamedOk X [] []
  | cons {x n : Str} {c : Value} {i : Nat} {ts : Addr → Value → Option Addr → TS} {st : Stmt} {sts : List Stmt} {np hp : Pos} {hds : List ExceptHandler} {l : List Cls3} (hc : Names X x c) (hi : X.N[i]? = some n) (hn : X.env.kindOf n = some .local)
      (hsu : ∀ (a : Addr) (oe : Obj) (cls : Value) (d : Option Addr) (pn : List (Addr × Obj)), Zc cls d oe → (∃ vs, oe.data = .fields vs) → PSs (X.suite a ((a, oe) :: pn)) (st :: sts) (ts a cls d)) (r : NamedOk X hds l) :
      NamedOk X (.ExceptHandler (some (.Name x np)) (some n) (st :: sts) hp :: hds) ((c, i, ts) :: l)
theorem ps_try_named {X : Cx} {body : List Stmt} {h0 : ExceptHandler} {hds : List ExceptHandler} {l : List Cls3} {pos : Pos} {tb : WX → TS} {Wout : WX} (hs : X.stack = X.env :: X.outer) (hf : X.env.frame = some X.env.locals) (hN : X.N.Nodup) (tk : Takes X Wout)
    (hb : ∀ (W : WX) (pn : List (Addr × Obj)) (xe : Value → Shared → Prop), Takes (X.tr pn xe) W → PassesOwn (model X.prog X.w) X.A X.env xe → PSs (X.tr pn xe) body (tb W))
    (hh : NamedOk X (h0 :: hds) l) : PS X (.Try body (h0 :: hds) [] [] pos) (fun D σ H => tb (wNamed X.K Wout D l) D σ H) := by
  refine ⟨fun pins s σ H D I h => ?_⟩
  have okX := I.ok
  have frm : X.A.frames = some (X.env :: X.outer) := by rw [okX.frames, hs]
  refine wpAny_Try_except ?_
  -- the wish of the body: the clauses, one after another
  have tkB : Takes (X.tr (X.pn ++ pins) fun e s1 => wpAny (model X.prog X.w) X.A (noteFrame e X.env) (fun _ s2 => wpAny (model X.prog X.w) X.A (setFlight e none) (fun _ s3 => wpAny (model X.prog X.w) X.A (handleBy e X.env (h0 :: hds)) (SP X pins D) X.xe s3) X.xe s2) X.xe s1) (wNamed X.K Wout D l) := by
    intro ue se xx
    obtain ⟨ea, gr, si, pinz, sg, Hg, cls, dd, rfl, Jt, nbr, upp, sky, noa, eqo, bar, wsh⟩ := xx
    have J : Inv X pins sg Hg si := Jt.ofTry okX
    have sk : Sky gr (X.env :: X.outer) ea (Zc cls dd) X.env.locals se.heap := by rw [← hs]; exact sky
    show wpAny _ X.A (noteFrame (.ref ea) X.env) _ _ _
    refine Sky.land Zc.steady frm hf sk fun hA flA upA => ?_
    have JA : Inv X pins sg Hg { se with heap := hA } := J.landed nbr flA.1 (upp.trans upA) eqo bar
    obtain ⟨oA, vA, gA, zA, fA⟩ := flA.there
    -- the exception's own address is no frame's
    have away : ∀ {hq : Heap} {oq : Obj} {vq : Array Value}, hq.FunFrames gr (X.env :: X.outer) → hq.get? ea = some oq → oq.data = .fields vq → ea ∉ frs (X.env :: X.outer) := fun {hq oq vq} ffs eq dq mq => by
      obtain ⟨_, o2, e2, n2⟩ := ffs.mem mq
      rw [eq] at e2
      cases e2
      exact n2 _ dq
    have notF := away flA.2.2.1 gA fA
    have noL : ea ≠ X.env.locals := fun z => notF (List.mem_filterMap.mpr ⟨X.env, List.mem_cons_self, by rw [hf, z]⟩)
    have noO : ea ∉ X.fs := fun mq => by
      obtain ⟨ev, hev, q⟩ := List.mem_filterMap.mp mq
      exact notF (List.mem_filterMap.mpr ⟨ev, List.mem_cons_of_mem _ hev, q⟩)
    have SA := JA.suite gA fA noa noL noO
    have walk : ∀ {hq : List ExceptHandler} {lq : List Cls3}, NamedOk X hq lq → wNamed X.K Wout D lq cls dd sg Hg → wpAny (model X.prog X.w) X.A (handleBy (.ref ea) X.env hq) (SP X pins D) X.xe { se with heap := hA } := by
      intro hq lq kq
      induction kq with
      | nil =>
        intro wq
        refine wpAny_handleBy_nil ?_
        obtain ⟨_, _, _, oq, vq, tq, otq, tsq, gq, zq, dq, fq, rq⟩ := id flA
        unfold PySem.passOn
        refine wpAny_bind (wpAny_field gq dq fq ?_)
        rw [if_neg (show ¬ (Value.ref tq == Value.none) = true by simp)]
        have out : wpAny (model X.prog X.w) X.A (setFlight (.ref ea) X.env.frame) (fun _ s4 => wpAny (model X.prog X.w) X.A (throw (.ref ea) : Sem Flow) (SP X pins D) X.xe s4) X.xe { se with heap := hA } := by
          rw [hf]
          refine HandSPX.setFlight_upZ flA fun hB bB uB => wpAny_throw (tk _ _ ?_)
          exact ⟨ea, gr, si, pins, sg, Hg, cls, dd, rfl, J, nbr, (upp.trans upA).trans uB, .inr (.inr (by rw [hs]; exact bB)), noa, eqo, bar, wq⟩
        first | exact wpAny_bind (wpAny_pure (wpAny_bind out)) | exact wpAny_bind out
      | @cons x n c i ts st sts np hp hds2 l2 hc hi hn hsu _ ih =>
        intro wq
        obtain ⟨b, ex1, yes, no⟩ := wq
        refine wpAny_handleBy_cons (codeAny_handlers_test ?_) (by intro q; cases q)
        have LT : PySem.W.Looks (model X.prog X.w) hA (typeOf (.ref ea)) cls := fun _ _ _ _ kz q => wpAny_typeOf_ref (kz _ _ gA) (by rw [zA.1]; exact q)
        have LM := PySem.W.exm_one (M := model X.prog X.w) JA.kIn LT ex1
        have asked : ∀ {Q : Value → Shared → Prop} {E : Value → Shared → Prop}, Q c { se with heap := hA } → wpAny (model X.prog X.w) (X.A.mark (some (.ref ea))) (eval (.Name x np) X.env) Q E { se with heap := hA } := fun {Q E} q => by
          obtain ⟨hg, hdb, hm | ⟨hm, hv, hnm⟩⟩ := hc
          · exact ld_glob (X := X.suite ea ((ea, oA) :: (X.pn ++ pins))) SA hg hm q hdb
          · exact ld_blt (X := X.suite ea ((ea, oA) :: (X.pn ++ pins))) SA hg hm hv q hnm hdb
        refine asked (LM.here ?_)
        cases b with
        | false => exact ih (no rfl)
        | true =>
          refine codeAny_handlers_suite_as ?_
          refine HandSPX.lands_againZ flA fun hB flB uB => ?_
          have JB : Inv X pins sg Hg { se with heap := hB } := J.landed nbr flB.1 ((upp.trans upA).trans uB) eqo bar
          obtain ⟨oB, vB, gB, zB, fB⟩ := flB.there
          have SB := JB.suite gB fB noa noL noO
          have loc : L2.Loc X.env.scope n := .inl hn
          refine store_ok (X := X.suite ea ((ea, oB) :: (X.pn ++ pins))) (v := .ref ea) SB hN hi loc rfl (fun s5 S5 => ?_) (.inr hn)
          refine wpAny_mono ((hsu ea oB cls dd (X.pn ++ pins) zB ⟨_, fB⟩).run [] s5 _ Hg _ S5 (yes rfl ea noa)) (fun fl s6 sp6 => ?_) (fun _ _ z => False.elim z)
          have unb : ∀ {s6' : L2.St} {H6 : Hp} {Q : Shared → Prop}, Inv (X.suite ea ((ea, oB) :: (X.pn ++ pins))) [] s6' H6 s6 → (∀ s7, Inv X pins (s6'.set i none) H6 s7 → Q s7) →
              wpAny (model X.prog X.w) X.A (do bindName X.env n .none; unbindBehindTheSuite X.env n hp) (fun _ s7 => Q s7) X.xe s6 := fun {_ _ _} S6 k6 => gone_ok (S6.unsuite okX) hN hi hn k6
          cases fl with
          | next => obtain ⟨_, _, S6, q6⟩ := sp6; exact unb S6 fun s7 J7 => ⟨_, _, J7, q6⟩
          | brk => obtain ⟨_, _, S6, q6⟩ := sp6; exact unb S6 fun s7 J7 => ⟨_, _, J7, q6⟩
          | cont => obtain ⟨_, _, S6, q6⟩ := sp6; exact unb S6 fun s7 J7 => ⟨_, _, J7, q6⟩
          | ret u => obtain ⟨_, _, _, S6, r6, q6⟩ := sp6; exact unb S6 fun s7 J7 => ⟨_, _, _, J7, r6, q6⟩
    exact walk hh wsh
  refine wpAny_mono ((hb _ _ _ tkB PassesOwn.looking).run [] s σ H D (I.toTry _) h) (fun fl s1 sp1 => ?_) (fun e s1 he => he)
  cases fl with
  | next => obtain ⟨s2, H2, J2, q⟩ := sp1; exact wpAny_execs_nil ⟨s2, H2, J2.ofTry okX, q⟩
  | brk => obtain ⟨s2, H2, J2, q⟩ := sp1; exact ⟨s2, H2, J2.ofTry okX, q⟩
  | cont => obtain ⟨s2, H2, J2, q⟩ := sp1; exact ⟨s2, H2, J2.ofTry okX, q⟩
  | ret u => obtain ⟨v2, s2, H2, J2, r2, q⟩ := sp1; exact ⟨v2, s2, H2, J2.ofTry okX, r2, q⟩

/-- C(): an own class over another one without an __init__ of its own -/
theorem pmk_bare {X : Cx} {C : Addr} {bmB : List Value} {B newId initId : String} {x : Str} {p pos : Pos} (F : ExcBaseFacts B newId initId bmB) (q : PySem.W.excIn X.K C bmB newId = true) (gC : X.mg x = some (.ref C)) (kC : PySem.W.keepIn X.K (.ref C) = true)
    (r : Raises X (.ref C)) (hg : Gl X x) (hdb : (x == ("__debug__" : Str)) = false) : PMk X (.Call (.Name x p) [] [] pos) (fun _ H Q => Q (.ref C) none H) := by
  intro pins s σ H Q I h
  refine wpAny_Call_Name_kw (ld_glob I hg gC ?_ hdb)
  refine PySem.W.callWith_K0 I.kIn kC ?_
  show wpAny _ _ (call (.ref C) []) _ _ _
  obtain ⟨bm, ns, nm, qn, bs, hdct, sn, sub, ab, col, dd, k0, k1, k2, k3, k5, mN, hC, hN, hni, T⟩ := exc_obj I.kIn q
  exact wpAny_call_exc_subT F T hC hN hni (fun hx ex hm => mk_of I hm r h (I.hok.gone hm.new)) (Nat.zero_le _)
/-- a making whose errors are wished for at the slots -/
theorem pe_makeS {X : Cx} {k : Nat} {f C : Addr} {fd : FuncData} {ps : List Str} {sp : Sp} {E : L2.St → XK} {x : Str} {p pos : Pos} {e : Expr} {es : List Expr} {t : TA} (M : Mk X.K C f) (F : FnOk X.prog X.w X.K X.mg X.base (L2.CX X.prog X.w) k f fd ps sp) (hr : Room (k + 1) X.A) (hg : Gl X x) (hm : X.mg x = some (.ref C))
    (hb : Binds X.K fd ps []) (hx : ∀ σ, PassesAt (L2.CX X.prog X.w) X σ (E σ)) (ha : PA X (e :: es) t) (hdb : (x == ("__debug__" : Str)) = false) (he : starEach (e :: es) X.env = (false, eval e X.env) :: starEach es X.env) (hpl : (backTo pos (starEach es X.env)).any (·.1) = false) :
    PE X (.Call (.Name x p) (e :: es) [] pos) (fun σ H Q => t σ H fun vs H1 => ∀ y dy, H1 y = none → H1 dy = none → dy ≠ y → sp (.ref y :: vs) (upd (upd H1 dy (.own y)) y (.ins C dy [])) (fun v H2 => v = .non ∧ Q (.ref y) H2) (E σ)) := by
  refine ⟨fun pins s σ H Q I h => ?_⟩
  refine wpAny_Call_Name_kw (ld_glob I hg hm ?_ hdb)
  refine PySem.W.callWith_K (h₀ := X.base) I.ok.mod.kin M.kp (thn (ha.run pos pins s σ H _ I h) fun us s1 ⟨vs, H1, I1, r, q⟩ => ⟨I1.kIn, ?_⟩) he hpl
  have qq := q (s1.heap.objs.size + 1) s1.heap.objs.size (I1.hok.fresh (Nat.le_succ _)) (I1.hok.fresh (Nat.le_refl _)) (Nat.ne_of_lt (Nat.lt_succ_self _))
  have J := Inv.made (C := C) I1
  have r2 : Vals (V.ref (s1.heap.objs.size + 1) :: vs) (Value.ref (s1.heap.objs.size + 1) :: us) := .cons rfl r
  have len : (Value.ref (s1.heap.objs.size + 1) :: us ++ []).length = ps.length := by
    have e2 := r2.length
    rw [F.len _ _ _ _ qq] at e2
    rw [List.append_nil]
    exact e2.symm
  have bnd := hb _ (Value.ref (s1.heap.objs.size + 1) :: us) J.kIn len
  rw [List.append_nil] at bnd
  have ran := F.run _ X.stack _ _ ⟨Value.ref (s1.heap.objs.size + 1) :: us, []⟩ (Value.ref (s1.heap.objs.size + 1) :: us) _ _ (E σ) (hr.make C us []) (J.env0.make C us []) bnd r2 qq
  refine wpAny_call (make_map (f := f) I1.kIn M.makes M.init (beq_iff_eq.mp M.fn) (codeAny_mono ran fun res s' hq => ?_))
  cases res with
  | error er => exact hx σ pins _ _ er s' J hq
  | ok fl =>
    cases fl with
    | ret u =>
      obtain ⟨v, H', J3, rv, ev, q3⟩ := J.after hq
      subst ev
      exact ⟨rv, V.ref (s1.heap.objs.size + 1), H', J3, rfl, q3⟩
    | next => exact False.elim hq
    | brk => exact False.elim hq
    | cont => exact False.elim hq
end DL
set_option Elab.async false
set_option linter.all false
set_option maxRecDepth 100000
set_option autoImplicit false
/-! DLX, part 2: defs that may raise, over data; try with clauses that name the exception. -/
namespace DL
open PySem L2
/-- a promise that tells of errors too: PX of the class and the parts -/
def spX (K : PySem.W.Frag) (n : Nat) (A : List D → (D → Prop) → (Addr → List (Str × D) → Prop) → Prop) : Sp := fun vs H Q E => vs.length = n ∧ ∃ F ds P PX, Good K none F H ∧ IsAll K F vs ds ∧ A ds P PX ∧ Then K none F H P Q ∧
  ∀ C d fs F' H', Step K none F H F' H' → ExIs K H F' H' d fs → PX C fs → E (.ref C) d H'
/-- an __init__ that may raise -/
def spIX (K : PySem.W.Frag) (C : Addr) (n : Nat) (A : List D → (List (Str × D) → Prop) → (Addr → List (Str × D) → Prop) → Prop) : Sp := fun vs H Q E => vs.length = n + 1 ∧ ∃ x ws F ds P PX, vs = .ref x :: ws ∧ Good K none F H ∧ F x = none ∧ (∃ dx, H x = some (.ins C dx [])) ∧ IsAll K F ws ds ∧ A ds P PX ∧
  (∀ F' H' dx gs fs, Same F F' → Good K none F' H' → F' x = none → (∀ a, F a = none → F' a ≠ none → H a = none) → (∀ a o, a ≠ x → H a = some o → H' a = some o) → H' x = some (.ins C dx gs) → gs.map (·.1) = fs.map (·.1) → IsAll K F' (gs.map (·.2)) (fs.map (·.2)) → P fs → Q .non H') ∧
  ∀ C' d fs F' H', Same F F' → Good K none F' H' → F' x = none → (∀ a, F a = none → F' a ≠ none → H a = none) → (∀ a o, a ≠ x → H a = some o → H' a = some o) → ExIs K H F' H' d fs → PX C' fs → E (.ref C') d H'
section
variable {P : Program} {w : World} {K : PySem.W.Frag} {mg : Str → Option Value} {base : Heap}
theorem Fun.okX2 {x qual : Str} {st : Stmt} {f : Addr} {fd : FuncData} {N Vn L G ps : List Str} {k : Nat} {A : List D → (D → Prop) → (Addr → List (Str × D) → Prop) → Prop} (Fn : Fun K x qual st f fd) (S : FnScope N ps (defScope st))
    (hv : ∀ x ∈ Vn, VisOk (defScope st) x = true) (hl : ∀ x ∈ L, LocOk (defScope st) x = true) (hg : ∀ x ∈ G, GlOk (defScope st) x = true)
    (hb : ∀ (X : Cx) (ds : List D) (Q : D → Prop) (QX : Addr → List (Str × D) → Prop), DX X P w K mg base N Vn L G (defScope st) k → ds.length = ps.length → A ds Q QX →
      WSs X none (envOf N ds) (defBody st) { nx := fun _ => Q .non, rt := fun d _ => Q d, ex := fun C fs _ => QX C fs }) :
    FnOk P w K mg base (L2.CX P w) (k + 1) f fd ps (spX K ps.length A) := by
  refine Fn.okX S (fun vs H Q E h => h.1) fun cdv Ar outer s H vs Q E hr h => ⟨_, pss_can, ?_⟩
  obtain ⟨hl', F, ds, Q', QX, g, ha, hA, t, tx⟩ := h
  refine (hb _ ds Q' QX (dx_of (x := x) S hv hl hg hr) (by rw [← ha.length]; exact hl') hA).run _ F H F F H _ (fun cls d _ H => E cls d H) ⟨.refl g, envs_start ha, Same.refl _⟩ ?_
  exact ⟨fun σ env F' H' s' q => t .non .non F' H' s'.step .non q, fun v d σ env F' H' s' hv q => t v d F' H' s'.step hv q, fun _ _ _ _ _ z => z.elim, fun _ _ _ _ _ z => z.elim, takes_of rfl rfl rfl rfl, fun σ env F' H' C d fs s' hx q => tx C d fs F' H' s'.step hx q, fun _ _ _ _ _ _ _ _ _ z => z.elim⟩
end

/-! ### raise, and calls that may raise -/
section
variable {X : Cx} {P : Program} {w : World} {K : PySem.W.Frag} {mg : Str → Option Value} {base : Heap} {N Vn L G B : List Str} {S : Scope} {k k2 n : Nat} {x y : Str} {i j j2 : Nat}
variable {m : Option Mem} {env : Ev} {a b c e iter elt o tg : Expr} {es : List Expr} {Q : D → Prop} {pos p2 p3 p4 pr : Pos} {R : DEnds} {rest body els : List Stmt} {ps : List Str} {C : Addr}
/-- an own error class without parts, at its name -/
structure ErrAt (K : PySem.W.Frag) (mg : Str → Option Value) (x : Str) (C : Addr) : Prop where
  ex : ∃ bmB B newId initId, ExcBaseFacts B newId initId bmB ∧ PySem.W.excIn K C bmB newId = true
  at_ : mg x = some (.ref C)
  kp : PySem.W.keepIn K (.ref C) = true
  sb : PySem.W.subIn K (.ref C) (.type "BaseException") = some true
  ty : PySem.W.typeIn K (.ref C) = some (.type "type")
theorem dl_raise0 (dx : DX X P w K mg base N Vn L G S k) (F : ErrAt K mg x C) (h3 : At G j x) (h : R.ex C [] env) : WS X m env (.Raise (some (.Call (.Name x p2) [] [] p3)) none pos) R := by
  obtain ⟨bmB, B', nI, iI, F1, F2⟩ := F.ex
  obtain ⟨g1, g2, g3⟩ := dx.g h3
  obtain rfl := dx.K_
  obtain rfl := dx.mg_
  refine ⟨fun σ F0 H0 Fl F' H De W s o => tsc (ps_raise dx.calm o.tk (pmk_bare F1 F2 F.at_ F.kp (raises_own F.sb F.ty) g1 g2)) ?_⟩
  exact o.ex σ env F' H C none [] s rfl h
theorem call_X {A : List D → (D → Prop) → (Addr → List (Str × D) → Prop) → Prop} {Pd : D → Prop} {σ : L2.St} {F0 H0 Fl F H F1 H1 : Hp} {De : Ends} {W : WX} {vs : List V} {ds : List D} {kk : VK} (s : Sta X.K m F0 H0 Fl F H σ env) (o : EndsOk X m F0 H0 Fl R De W) (s1 : Step X.K m F H F1 H1) (hvs : IsAll X.K F1 vs ds)
    (hq : ds.length = n ∧ A ds Pd fun C fs => R.ex C fs env) (t : Then X.K m F1 H1 Pd kk) : spX X.K n A vs H1 kk (L2.WE W σ) := by
  refine ⟨by rw [hvs.length]; exact hq.1, F1, ds, Pd, _, s1.good.any, hvs, hq.2, fun v d F2 H2 s2 hv hP => t v d F2 H2 (s2.any s1.good) hv hP, fun C d fs F2 H2 s2 hx hP => ?_⟩
  exact o.ex σ env F2 H2 C d fs ((s.after s1).after (s2.any s1.good)) (hx.back (s.step.trans s1)) hP
theorem dl_exprX {A : List D → (D → Prop) → (Addr → List (Str × D) → Prop) → Prop} (dx : DX X P w K mg base N Vn L G S k) (F : FnAt P w K mg base x k2 ps (spX K n A)) (h3 : At G j x) (hk : k2 ≤ k) (he : starEach (e :: es) X.env = (false, eval e X.env) :: starEach es X.env) (hpl : (backTo p3 (starEach es X.env)).any (·.1) = false)
    (hs : swapsWith (.Call (.Name x p2) (e :: es) [] p3) none pos.line X.env = pure false) (hw : WA X m env (e :: es) fun ds => ds.length = n ∧ A ds (fun _ => R.nx env) fun C fs => R.ex C fs env) : WS X m env (.Expr (.Call (.Name x p2) (e :: es) [] p3) pos) R := by
  obtain ⟨f, fd, Fn, hm, hkp, hb⟩ := F.ex
  obtain ⟨g1, g2, g3⟩ := dx.g h3
  obtain rfl := dx.prog
  obtain rfl := dx.w_
  obtain rfl := dx.K_
  obtain rfl := dx.mg_
  obtain rfl := dx.base_
  refine ⟨fun σ F0 H0 Fl F' H De W s o => tsc (ps_expr (pe_callS Fn (dx.room.mono hk) g1 hm hkp hb (fun σ => passAt o.tk σ) pa_can g2 he hpl) hs) ?_⟩
  refine hw.run σ H0 F' H _ s.good s.env fun vs ds F1 H1 s1 hvs q => ?_
  exact call_X (R := R) s o s1 hvs q fun v d F2 H2 s2 hv hP => o.nx σ env F2 H2 ((s.after s1).after s2) hP
theorem dl_retX {A : List D → (D → Prop) → (Addr → List (Str × D) → Prop) → Prop} (dx : DX X P w K mg base N Vn L G S k) (F : FnAt P w K mg base x k2 ps (spX K n A)) (h3 : At G j x) (hk : k2 ≤ k) (he : starEach (e :: es) X.env = (false, eval e X.env) :: starEach es X.env) (hpl : (backTo p3 (starEach es X.env)).any (·.1) = false)
    (hw : WA X m env (e :: es) fun ds => ds.length = n ∧ A ds (fun d => R.rt d env) fun C fs => R.ex C fs env) : WS X m env (.Return (some (.Call (.Name x p2) (e :: es) [] p3)) pos) R := by
  obtain ⟨f, fd, Fn, hm, hkp, hb⟩ := F.ex
  obtain ⟨g1, g2, g3⟩ := dx.g h3
  obtain rfl := dx.prog
  obtain rfl := dx.w_
  obtain rfl := dx.K_
  obtain rfl := dx.mg_
  obtain rfl := dx.base_
  refine ⟨fun σ F0 H0 Fl F' H De W s o => tsc (ps_ret (pe_callS Fn (dx.room.mono hk) g1 hm hkp hb (fun σ => passAt o.tk σ) pa_can g2 he hpl)) ?_⟩
  refine hw.run σ H0 F' H _ s.good s.env fun vs ds F1 H1 s1 hvs q => ?_
  exact call_X (R := R) s o s1 hvs q fun v d F2 H2 s2 hv hP => o.rt v d σ env F2 H2 ((s.after s1).after s2) hv hP
theorem dl_setX {A : List D → (D → Prop) → (Addr → List (Str × D) → Prop) → Prop} (dx : DX X P w K mg base N Vn L G S k) (F : FnAt P w K mg base x k2 ps (spX K n A)) (h3 : At G j x) (hk : k2 ≤ k) (he : starEach (e :: es) X.env = (false, eval e X.env) :: starEach es X.env) (hpl : (backTo p3 (starEach es X.env)).any (·.1) = false)
    (h1 : At N i y) (h2 : At L j2 y) (hs : swapsWith (.Call (.Name x p2) (e :: es) [] p3) (some (.Name y p4)) pos.line X.env = pure false) (hw : WA X m env (e :: es) fun ds => ds.length = n ∧ A ds (fun d => R.nx (env.set i (some (.frz d)))) fun C fs => R.ex C fs env) :
    WS X m env (.Assign [.Name y p4] (.Call (.Name x p2) (e :: es) [] p3) pos) R := by
  obtain ⟨f, fd, Fn, hm, hkp, hb⟩ := F.ex
  obtain ⟨g1, g2, g3⟩ := dx.g h3
  obtain ⟨l1, l2⟩ := dx.l h2
  have hi := dx.n h1
  obtain rfl := dx.prog
  obtain rfl := dx.w_
  obtain rfl := dx.K_
  obtain rfl := dx.mg_
  obtain rfl := dx.base_
  refine ⟨fun σ F0 H0 Fl F' H De W s o => tsc (ps_set dx.ndX hi l1 (pe_callS Fn (dx.room.mono hk) g1 hm hkp hb (fun σ => passAt o.tk σ) pa_can g2 he hpl) hs l2) ?_⟩
  refine hw.run σ H0 F' H _ s.good s.env fun vs ds F1 H1 s1 hvs q => ?_
  exact call_X (R := R) s o s1 hvs q fun v d F2 H2 s2 hv hP => o.nx _ _ F2 H2 ⟨(s.step.trans s1).trans s2, ((s.env.step s1).step s2).frz hv, (s.fl.trans s1.fs).trans s2.fs⟩ hP
/-- the making of an instance, behind it: the instance stays from now on -/
theorem make_X {A : List D → (List (Str × D) → Prop) → (Addr → List (Str × D) → Prop) → Prop} {Pd : D → Prop} {σ : L2.St} {F0 H0 Fl F H F1 H1 : Hp} {De : Ends} {W : WX} {vs : List V} {ds : List D} {kk : VK} (s : Sta X.K m F0 H0 Fl F H σ env) (o : EndsOk X m F0 H0 Fl R De W) (s1 : Step X.K m F H F1 H1) (hvs : IsAll X.K F1 vs ds)
    (hq : ds.length = n ∧ A ds (fun fs => Pd (.ins C fs)) fun C fs => R.ex C fs env) (t : Then X.K m F1 H1 Pd kk) {y dy : Addr} (hy : H1 y = none) (hdy : H1 dy = none) (ne : dy ≠ y) :
    spIX X.K C n A (.ref y :: vs) (upd (upd H1 dy (.own y)) y (.ins C dy [])) (fun v H2 => v = .non ∧ kk (.ref y) H2) (L2.WE W σ) := by
  have hy2 : upd H1 dy (.own y) y = none := by rw [upd_ne ne.symm]; exact hy
  have t1 := s1.good.fresh (o := .own y) hdy
  have t2 := t1.good.fresh (o := .ins C dy []) hy2
  have back : ∀ a, upd (upd H1 dy (.own y)) y (.ins C dy []) a = none → H1 a = none := fun a z => by
    by_cases ha : a = y
    · subst ha; exact hy
    · rw [upd_ne ha] at z
      by_cases hb : a = dy
      · subst hb; exact hdy
      · rw [upd_ne hb] at z; exact z
  have fwd : ∀ a o, H1 a = some o → upd (upd H1 dy (.own y)) y (.ins C dy []) a = some o := fun a o z => by
    rw [upd_ne (ne_of_none z hy), upd_ne (ne_of_none z hdy)]; exact z
  have stp : ∀ (F' H' : Hp), Same F1 F' → Good X.K none F' H' → (∀ a, F1 a = none → F' a ≠ none → upd (upd H1 dy (.own y)) y (.ins C dy []) a = none) → (∀ a o, a ≠ y → upd (upd H1 dy (.own y)) y (.ins C dy []) a = some o → H' a = some o) → Step X.K m F1 H1 F' H' := fun F' H' sm g' nw kp => by
    have kp2 : ∀ a o, H1 a = some o → H' a = some o := fun a o z => kp a o (ne_of_none z hy) (fwd a o z)
    refine ⟨sm, ⟨g'.sub, fun b hb => ?_⟩, fun a h1 h2 => back a (nw a h1 h2), fun a o _ z => kp2 a o z⟩
    obtain ⟨hF1, hB⟩ := s1.good.bag b hb
    obtain ⟨⟨u, hu⟩, u2, hu2⟩ := hB.some
    refine ⟨⟨?_, ?_⟩, hB.mono ((kp2 b.b u hu).trans hu.symm) ((kp2 b.l u2 hu2).trans hu2.symm)⟩
    · cases e : F' b.b with
      | none => rfl
      | some o => exact absurd (back b.b (nw b.b hF1.1 (by rw [e]; exact fun z => nomatch z))) (by rw [hu]; exact fun z => nomatch z)
    · cases e : F' b.l with
      | none => rfl
      | some o => exact absurd (back b.l (nw b.l hF1.2 (by rw [e]; exact fun z => nomatch z))) (by rw [hu2]; exact fun z => nomatch z)
  refine ⟨by show vs.length + 1 = n + 1; rw [hvs.length, hq.1], y, vs, F1, ds, _, _, rfl, t2.good.any, s1.good.noF hy, ⟨dy, upd_same⟩, hvs, hq.2, fun F' H' dx' gs fs sm g' hF' nw kp hH' hn ha hP => ⟨rfl, ?_⟩, fun C' d fs F' H' sm g' hF' nw kp hx hP => ?_⟩
  · have st := stp F' H' sm g' nw kp
    have hm' : ¬ Touch m y := s1.good.notm hy
    refine t _ _ (upd F' y (.ins C dx' gs)) H' ⟨sm.trans (same_upd hF'), st.good.freeze hF' hm' hH', fun a h1 h2 => ?_, st.keep⟩ (.ins upd_same hn (ha.mono (same_upd hF'))) hP
    by_cases hay : a = y
    · subst hay; exact hy
    · rw [upd_ne hay] at h2; exact st.new a h1 h2
  · exact o.ex σ env F' H' C' d fs ((s.after s1).after (stp F' H' sm g' nw kp)) (hx.imp fun a z _ => (s.step.trans s1).none0 (back a z)) hP
theorem dl_setMakeX {A : List D → (List (Str × D) → Prop) → (Addr → List (Str × D) → Prop) → Prop} (dx : DX X P w K mg base N Vn L G S k) (F : MkAt P w K mg base x C k2 ps (spIX K C n A)) (h3 : At G j x) (hk : k2 + 1 ≤ k) (he : starEach (e :: es) X.env = (false, eval e X.env) :: starEach es X.env) (hpl : (backTo p3 (starEach es X.env)).any (·.1) = false)
    (h1 : At N i y) (h2 : At L j2 y) (hs : swapsWith (.Call (.Name x p2) (e :: es) [] p3) (some (.Name y p4)) pos.line X.env = pure false)
    (hw : WA X m env (e :: es) fun ds => ds.length = n ∧ A ds (fun fs => R.nx (env.set i (some (.frz (.ins C fs))))) fun C fs => R.ex C fs env) : WS X m env (.Assign [.Name y p4] (.Call (.Name x p2) (e :: es) [] p3) pos) R := by
  obtain ⟨f, fd, M, Fn, hb, hm⟩ := F.ex
  obtain ⟨g1, g2, g3⟩ := dx.g h3
  obtain ⟨l1, l2⟩ := dx.l h2
  have hi := dx.n h1
  obtain rfl := dx.prog
  obtain rfl := dx.w_
  obtain rfl := dx.K_
  obtain rfl := dx.mg_
  obtain rfl := dx.base_
  refine ⟨fun σ F0 H0 Fl F' H De W s o => tsc (ps_set dx.ndX hi l1 (pe_makeS M Fn (dx.room.mono hk) g1 hm hb (fun σ => passAt o.tk σ) pa_can g2 he hpl) hs l2) ?_⟩
  refine hw.run σ H0 F' H _ s.good s.env fun vs ds F1 H1 s1 hvs q => ?_
  intro yy dy hy hdy ne
  exact make_X (R := R) (Pd := fun d => R.nx (env.set i (some (.frz d)))) s o s1 hvs q (fun v d F2 H2 s2 hv hP => o.nx _ _ F2 H2 ⟨(s.step.trans s1).trans s2, ((s.env.step s1).step s2).frz hv, (s.fl.trans s1.fs).trans s2.fs⟩ hP) hy hdy ne
theorem dl_retMakeX {A : List D → (List (Str × D) → Prop) → (Addr → List (Str × D) → Prop) → Prop} (dx : DX X P w K mg base N Vn L G S k) (F : MkAt P w K mg base x C k2 ps (spIX K C n A)) (h3 : At G j x) (hk : k2 + 1 ≤ k) (he : starEach (e :: es) X.env = (false, eval e X.env) :: starEach es X.env) (hpl : (backTo p3 (starEach es X.env)).any (·.1) = false)
    (hw : WA X m env (e :: es) fun ds => ds.length = n ∧ A ds (fun fs => R.rt (.ins C fs) env) fun C fs => R.ex C fs env) : WS X m env (.Return (some (.Call (.Name x p2) (e :: es) [] p3)) pos) R := by
  obtain ⟨f, fd, M, Fn, hb, hm⟩ := F.ex
  obtain ⟨g1, g2, g3⟩ := dx.g h3
  obtain rfl := dx.prog
  obtain rfl := dx.w_
  obtain rfl := dx.K_
  obtain rfl := dx.mg_
  obtain rfl := dx.base_
  refine ⟨fun σ F0 H0 Fl F' H De W s o => tsc (ps_ret (pe_makeS M Fn (dx.room.mono hk) g1 hm hb (fun σ => passAt o.tk σ) pa_can g2 he hpl)) ?_⟩
  refine hw.run σ H0 F' H _ s.good s.env fun vs ds F1 H1 s1 hvs q => ?_
  intro yy dy hy hdy ne
  exact make_X (R := R) (Pd := fun d => R.rt d env) s o s1 hvs q (fun v d F2 H2 s2 hv hP => o.rt v d σ env F2 H2 ((s.after s1).after s2) hv hP) hy hdy ne
end
end DL
set_option Elab.async false
set_option linter.all false
set_option maxRecDepth 100000
set_option autoImplicit false
/-! DLX, part 3: an __init__ that may raise; try. -/
namespace DL
open PySem L2
section
variable {P : Program} {w : World} {K : PySem.W.Frag} {mg : Str → Option Value} {base : Heap}
theorem Fun.okInitX {x qual : Str} {st : Stmt} {f C : Addr} {fd : FuncData} {N Vn L G ps : List Str} {k n : Nat} {A : List D → (List (Str × D) → Prop) → (Addr → List (Str × D) → Prop) → Prop} (Fn : Fun K x qual st f fd) (S : FnScope N ps (defScope st)) (hps : ps.length = n + 1)
    (hv : ∀ x ∈ Vn, VisOk (defScope st) x = true) (hl : ∀ x ∈ L, LocOk (defScope st) x = true) (hg : ∀ x ∈ G, GlOk (defScope st) x = true)
    (hb : ∀ (X : Cx) (q0 : Addr) (ds : List D) (Q : List (Str × D) → Prop) (QX : Addr → List (Str × D) → Prop), DX X P w K mg base N Vn L G (defScope st) k → ds.length = n → A ds Q QX →
      WSs X none (some (.own q0 (.obj C [])) :: (ds.map fun d => some (.frz d)) ++ List.replicate (N.length - (n + 1)) none) (defBody st)
        { nx := fun env => ∃ fs, env[0]? = some (some (.own q0 (.obj C fs))) ∧ Q fs, rt := fun _ _ => False, ex := fun C' fs env => (∃ fs0, env[0]? = some (some (.own q0 (.obj C fs0)))) ∧ QX C' fs }) :
    FnOk P w K mg base (L2.CX P w) (k + 1) f fd ps (spIX K C n A) := by
  refine Fn.okX S (fun vs H Q E h => by rw [hps]; exact h.1) fun cdv Ar outer s H vs Q E hr h => ⟨_, pss_can, ?_⟩
  obtain ⟨hlen, b, ws, F, ds, Q', QX, rfl, g, hFb, ⟨db, hH⟩, ha, hA, t, tx⟩ := h
  have hd : ds.length = n := by rw [← ha.length]; simpa using hlen
  let H0 : Hp := fun a => if a = b then none else H a
  have h0b : H0 b = none := if_pos rfl
  have h0 : ∀ a, a ≠ b → H0 a = H a := fun a h => if_neg h
  have hst : (some (.own b (.obj C [])) :: (ds.map fun d => some (.frz d)) ++ List.replicate (N.length - (n + 1)) none : Ev) = (envOf N (.ref b :: ds)).set 0 (some (.own b (.obj C []))) := by
    unfold envOf
    simp [hd]
  have e0 : Envs K none H F H (L2.start N (.ref b :: ws)) (envOf N (.ref b :: ds)) := envs_start (.cons (.ref b) ha)
  have start : Sta K none F H0 F F H (L2.start N (.ref b :: ws)) (some (.own b (.obj C [])) :: (ds.map fun d => some (.frz d)) ++ List.replicate (N.length - (n + 1)) none) := by
    rw [hst]
    have frz : ∀ (j : Nat) (s : Slot), (envOf N (.ref b :: ds))[j]? = some (some s) → ∃ d, s = .frz d := fun j s e => by
      unfold envOf at e
      rcases Nat.lt_or_ge j (D.ref b :: ds).length with hi | hi
      · rw [List.getElem?_append_left (by simpa using hi), List.getElem?_map] at e
        cases e1 : (D.ref b :: ds)[j]? with
        | none => rw [e1] at e; cases e
        | some d => rw [e1] at e; cases e; exact ⟨d, rfl⟩
      · rw [List.getElem?_append_right (by simpa using hi)] at e
        have := List.eq_of_mem_replicate (List.mem_of_getElem? e)
        cases this
    refine ⟨⟨Same.refl _, g, fun a h1 h2 => absurd h1 h2, fun a o _ h => ?_⟩, ⟨fun j s e => ?_, by rw [List.length_set]; exact e0.len, fun j k ds' es p hjk e1 e2 => ?_, e0.apt.put (fun j t a _ e ha => by obtain ⟨d, rfl⟩ := frz j t e; cases ha) fun j t a _ e ha => nomatch ha⟩, Same.refl _⟩
    · by_cases hab : a = b
      · subst hab; rw [h0b] at h; cases h
      · rw [h0 a hab] at h; exact h
    · rcases set_at e with ⟨rfl, hl, e⟩ | ⟨hij, e⟩
      · cases e
        exact ⟨.ref b, rfl, _, rfl, (fun z => nomatch z), hFb, h0b, hH, db, [], rfl, rfl, .nil⟩
      · obtain ⟨d, rfl⟩ := frz j s e
        obtain ⟨v, h1, h2⟩ := e0.at_ j _ e
        exact ⟨v, h1, h2⟩
    · rcases set_at e1 with ⟨rfl, hl, e⟩ | ⟨hij, e⟩
      · rcases set_at e2 with ⟨z, _, _⟩ | ⟨_, e⟩
        · exact hjk z
        · obtain ⟨d, z⟩ := frz k _ e; cases z
      · obtain ⟨d, z⟩ := frz j _ e; cases z
  have gone : ∀ {Fl F' H' : Hp} {σ : L2.St} {env : Ev} {fs : List (Str × D)}, Sta K none F H0 Fl F' H' σ env → env[0]? = some (some (.own b (.obj C fs))) → F' b = none ∧ (∀ a, F a = none → F' a ≠ none → H a = none) ∧ ∀ a o, a ≠ b → H a = some o → H' a = some o := fun {Fl F' H' σ env fs} s' he => by
    obtain ⟨v0, hσ0, ho, _, _, hFp, _⟩ := s'.env.at_ 0 _ he
    refine ⟨hFp, fun a h1 h2 => ?_, fun a o hab ho => s'.step.keep a o (fun z => nomatch z) (by rw [h0 a hab]; exact ho)⟩
    by_cases hab : a = b
    · subst hab; exact absurd hFp h2
    · rw [← h0 a hab]; exact s'.step.new a h1 h2
  refine (hb _ b ds Q' QX (dx_of (x := x) S hv hl hg hr) hd hA).run _ F H0 F F H _ (fun cls d _ H => E cls d H) start ?_
  refine ⟨fun σ env F' H' s' q => ?_, fun _ _ _ _ _ _ _ _ z => z.elim, fun _ _ _ _ _ z => z.elim, fun _ _ _ _ _ z => z.elim, takes_of rfl rfl rfl rfl, fun σ env F' H' C' d fs s' hx q => ?_, fun _ _ _ _ _ _ _ _ _ z => z.elim⟩
  · obtain ⟨fs, he, q⟩ := q
    obtain ⟨h1, h2, h3⟩ := gone s' he
    obtain ⟨v0, hσ0, ho, _, _, _, _, hHp, da, gs, rfl, hn, hap⟩ := s'.env.at_ 0 _ he
    exact t F' H' da gs fs s'.step.fs s'.step.good h1 h2 h3 hHp hn hap q
  · obtain ⟨⟨fs0, he⟩, q⟩ := q
    obtain ⟨h1, h2, h3⟩ := gone s' he
    obtain ⟨v0, hσ0, ho, _, _, _, _, hHp, da, gs0, rfl, _⟩ := s'.env.at_ 0 _ he
    refine tx C' d fs F' H' s'.step.fs s'.step.good h1 h2 h3 (hx.imp fun a z ⟨gs, hg⟩ => ?_) q
    rw [← h0 a fun e => by rw [e, hHp] at hg; cases hg]
    exact z
end

/-! ### a context by fewer facts: within an except suite -/
structure DY (X : Cx) (K : PySem.W.Frag) (mg : Str → Option Value) (N Vn G : List Str) (S : Scope) : Prop where
  K_ : X.K = K
  mg_ : X.mg = mg
  N_ : X.N = N
  S_ : X.env.scope = S
  vis : ∀ x ∈ Vn, VisOk S x = true
  gl : ∀ x ∈ G, GlOk S x = true
section
variable {X : Cx} {P : Program} {w : World} {K : PySem.W.Frag} {mg : Str → Option Value} {base : Heap} {N Vn L G B : List Str} {S : Scope} {k k2 n : Nat} {x y : Str} {i j j2 : Nat}
variable {m : Option Mem} {env : Ev} {a b c e iter elt o tg : Expr} {es : List Expr} {Q : D → Prop} {pos p2 p3 p4 pr : Pos} {R : DEnds} {rest body els : List Stmt} {ps : List Str} {C : Addr}
theorem DX.toY (dx : DX X P w K mg base N Vn L G S k) : DY X K mg N Vn G S := ⟨dx.K_, dx.mg_, dx.N_, dx.S_, dx.vis, dx.gl⟩
theorem dy_name (dy : DY X K mg N Vn G S) (h1 : At N i x) (h2 : At Vn j x) {d : D} (he : env[i]? = some (some (.frz d))) (h : Q d) : WE X m env (.Name x pos) Q := by
  have q := dy.vis x h2.mem
  unfold VisOk at q
  simp only [Bool.and_eq_true, Bool.not_eq_true'] at q
  refine we_name i (by rw [dy.N_]; exact h1.get) ?_ q.1.2 q.2 he h
  have q1 := q.1.1
  unfold Vis
  rw [dy.S_]
  cases e : S.names.lookup x with
  | none => rw [e] at q1; cases q1
  | some kd =>
    rw [e] at q1
    cases kd <;> first | exact .inl rfl | exact .inr (.inl rfl) | exact .inr (.inr rfl) | cases q1
theorem DY.g (dx : DY X K mg N Vn G S) (h : At G j x) : Gl X x ∧ (x == ("__debug__" : Str)) = false ∧ x ≠ "__name__" := by
  have q := dx.gl x h.mem
  unfold GlOk at q
  simp only [Bool.and_eq_true, Bool.not_eq_true'] at q
  refine ⟨?_, q.1.2, fun z => by have := q.2; rw [z] at this; simp at this⟩
  have q1 := q.1.1
  show X.env.scope.names.lookup x = some .globalImplicit
  rw [dx.S_]
  cases e : S.names.lookup x with
  | none => rw [e] at q1; cases q1
  | some kd =>
    rw [e] at q1
    cases kd <;> first | rfl | cases q1
/-- what an except suite's context is: the exception at ad, of the class at C -/
structure Suite (X' : Cx) (ad C : Addr) (d : Option Addr) : Prop where
  ex : ∃ (X : Cx) (oe : Obj) (pn : List (Addr × Obj)), X' = X.suite ad ((ad, oe) :: pn) ∧ Zc (.ref C) d oe ∧ ∃ vs, oe.data = .fields vs
/-- isinstance(e, T), e the suite's own exception without parts, T an own class -/
theorem dy_isE {ad T : Addr} {r : Bool} (dy : DY X K mg N Vn G S) (bn : NoMg mg B) (su : Suite X ad C none) (hc : ExcC K C) (h1 : At N i x) (h2 : At Vn j x) (he : env[i]? = some (some (.frz (.ref ad)))) (h3 : At G j2 "isinstance") {j3 j4 : Nat} (h4 : At B j3 "isinstance") (h5 : At G j4 y) (hy : mg y = some (.ref T))
    (hk : PySem.W.kitOne K (.ref C) (.ref T) = some r) (h : Q (.bl r)) : WE X m env (.Call (.Name "isinstance" p2) [.Name x p3, .Name y p4] [] pos) Q := by
  obtain ⟨X0, oe, pn, rfl, hz, hf⟩ := su.ex
  obtain ⟨g1, g2, g3⟩ := dy.g h3
  obtain ⟨y1, y2, y3⟩ := dy.g h5
  obtain rfl := dy.K_
  refine we_cb (call_isE hc hz hf) g1 (by rw [dy.mg_]; exact bn _ h4.mem) boot_isinstance g3 g2 rfl rfl (wa_cons (dy_name dy h1 h2 he (wa_cons (we_glob (d := .ref T) (v := .ref T) (u := .ref T) y1 (by rw [dy.mg_]; exact hy) rfl rfl y2 (wa_nil ⟨fun F H vs kk g hvs t => ?_⟩)) rfl)) rfl)
  cases hvs with
  | cons a1 r1 =>
    cases a1
    cases r1 with
    | cons a2 r2 =>
      cases a2
      cases r2
      exact ⟨.ref T, .ref T, r, rfl, fun u ru => ru, hk, t.at g (.bl r) h⟩

/-! ### try: clauses that name the exception -/
structure Clause where
  /-- the class that is caught -/
  c : Addr
  /-- the name's place -/
  i : Nat
  body : List Stmt
/-- the exception that a suite holds, as data -/
def ExD (ad C : Addr) (d : Option Addr) (fs : List (Str × D)) (s : D) : Prop := (d = none ∧ fs = [] ∧ s = .ref ad) ∨ ∃ dd, d = some dd ∧ fs ≠ [] ∧ s = .exc ad C dd fs
theorem ExD.bare {ad C : Addr} {d : Option Addr} {s : D} (h : ExD ad C d [] s) : d = none ∧ s = .ref ad := by
  rcases h with ⟨h1, _, h2⟩ | ⟨dd, _, h, _⟩
  · exact ⟨h1, h2⟩
  · exact absurd rfl h
theorem ExD.part {ad C : Addr} {d : Option Addr} {f : Str × D} {fs : List (Str × D)} {s : D} (h : ExD ad C d (f :: fs) s) : ∃ dd, d = some dd ∧ s = .exc ad C dd (f :: fs) := by
  rcases h with ⟨_, h, _⟩ | ⟨dd, h1, _, h2⟩
  · cases h
  · exact ⟨dd, h1, h2⟩
/-- what comes of an exception of the class at C with the parts fs: the first clause that fits -/
def Caught (X : Cx) (m : Option Mem) (K : PySem.W.Frag) (R : DEnds) : List Clause → Addr → List (Str × D) → Ev → Prop
  | [], C, fs, env => R.ex C fs env
  | q :: r, C, fs, env => ∃ b, PySem.W.exmOne K (.ref C) (.ref q.c) = some b ∧
      (b = true → ∀ X' ad d, Suite X' ad C d → X'.K = X.K → X'.mg = X.mg → X'.N = X.N → X'.env = X.env → ∀ s, ExD ad C d fs s → WSs X' m (env.set q.i (some (.frz s))) q.body { nx := fun ev => R.nx (ev.set q.i none), rt := R.rt }) ∧
      (b = false → Caught X m K R r C fs env)
/-- the slots at a suite's beginning -/
theorem suite_sta {K : PySem.W.Frag} {m : Option Mem} {F0 H0 Fl F H : Hp} {σ : L2.St} {env : Ev} {d : Option Addr} {fs : List (Str × D)} {a C : Addr} (s : Sta K m F0 H0 Fl F H σ env) (hx : ExIs K H0 F H d fs) (i : Nat) : ∃ (F2 : Hp) (x : D), ExD a C d fs x ∧ Sta K m F0 H0 Fl F2 H (σ.set i (some (.ref a))) (env.set i (some (.frz x))) := by
  cases d with
  | none => exact ⟨F, .ref a, .inl ⟨rfl, hx, rfl⟩, s.step, s.env.frz (.ref a), s.fl⟩
  | some dd =>
    obtain ⟨h1, h2, h3, gs, h4, h5, h6⟩ := hx
    have sm : Same F (upd F dd (.xd gs)) := same_upd h3
    have nt : ¬ Touch m dd := fun z => by
      obtain ⟨xs, e⟩ := s.step.good.touchL z
      rw [h4] at e; cases e
    refine ⟨upd F dd (.xd gs), .exc a C dd fs, .inr ⟨dd, rfl, h1, rfl⟩, ⟨s.step.fs.trans sm, s.step.good.freeze h3 nt h4, fun b q1 q2 => ?_, s.step.keep⟩, (s.env.freezeX h3 h4).frz (.exc upd_same h5 (h6.mono sm)), s.fl.trans sm⟩
    by_cases hb : b = dd
    · subst hb; exact h2
    · rw [upd_ne hb] at q2; exact s.step.new b q1 q2
theorem dl_try2 {x1 x2 n1 n2 : Str} {c1 c2 : Addr} {i1 i2 j1 j3 j5 j6 : Nat} {b1 b2 : Stmt} {s1 s2 : List Stmt} {np1 np2 hp1 hp2 : Pos} (dx : DX X P w K mg base N Vn L G S k) (hst : X.stack = X.env :: X.outer) (hfr : X.env.frame = some X.env.locals)
    (g1 : At G j1 x1) (m1 : mg x1 = some (.ref c1)) (h1 : At N i1 n1) (k1 : X.env.kindOf n1 = some .local) (g2 : At G j3 x2) (m2 : mg x2 = some (.ref c2)) (h2 : At N i2 n2) (k2 : X.env.kindOf n2 = some .local)
    (hw : ∀ X', DX X' P w K mg base N Vn L G S k → WSs X' m env body { R with ex := Caught X m K R [⟨c1, i1, b1 :: s1⟩, ⟨c2, i2, b2 :: s2⟩] }) :
    WS X m env (.Try body [.ExceptHandler (some (.Name x1 np1)) (some n1) (b1 :: s1) hp1, .ExceptHandler (some (.Name x2 np2)) (some n2) (b2 :: s2) hp2] [] [] pos) R := by
  have nm : ∀ {x : Str} {c : Addr} {j : Nat}, At G j x → mg x = some (.ref c) → Names X x (.ref c) := fun {x c j} hg hm => ⟨(dx.g hg).1, (dx.g hg).2.1, .inl (by rw [dx.mg_]; exact hm)⟩
  let TB : WX → TS := fun W De σ H => ∀ (pn : List (Addr × Obj)) (xe : Value → Shared → Prop), Takes (X.tr pn xe) W → PassesOwn (model X.prog X.w) X.A X.env xe → TSsc (X.tr pn xe) body De σ H
  let TSu : List Stmt → Addr → Value → Option Addr → TS := fun sts a cls d De σ H => ∀ oe pn, Zc cls d oe → (∃ vs, oe.data = .fields vs) → TSsc (X.suite a ((a, oe) :: pn)) sts De σ H
  refine ⟨fun σ F0 H0 Fl F H De W s o => tsc (ps_try_named (tb := TB) (l := [(.ref c1, i1, TSu (b1 :: s1)), (.ref c2, i2, TSu (b2 :: s2))]) hst hfr dx.ndX o.tk
    (fun W' pn xe tk po => ⟨fun pins s' σ' H' D' I h => h pn xe tk po pins s' I⟩)
    (.cons (nm g1 m1) (dx.n h1) k1 (fun a oe cls d pn hz hf => ⟨fun pins s' σ' H' D' I h => h oe pn hz hf pins s' I⟩) (.cons (nm g2 m2) (dx.n h2) k2 (fun a oe cls d pn hz hf => ⟨fun pins s' σ' H' D' I h => h oe pn hz hf pins s' I⟩) .nil))) ?_⟩
  intro pn xe tk po
  have dx' : DX (X.tr pn xe) P w K mg base N Vn L G S k := ⟨dx.prog, dx.w_, dx.K_, dx.mg_, dx.base_, dx.N_, dx.nd, dx.S_, dx.vis, dx.loc, dx.fn, dx.gl, dx.calm, dx.room, po⟩
  refine (hw _ dx').run σ F0 H0 Fl F H De _ s ⟨o.nx, o.rt, o.bk, o.ct, tk, fun σ' env' F' H' C d fs s' hx q => ?_, o.ro⟩
  -- a clause that fits
  have suite : ∀ {cc : Addr} {i : Nat} {sts : List Stmt}, (∀ X' ad d, Suite X' ad C d → X'.K = X.K → X'.mg = X.mg → X'.N = X.N → X'.env = X.env → ∀ x, ExD ad C d fs x → WSs X' m (env'.set i (some (.frz x))) sts { nx := fun ev => R.nx (ev.set i none), rt := R.rt }) →
      ∀ a, H' a = none → TSu sts a (.ref C) d (aEnds i De) (σ'.set i (some (.ref a))) H' := fun {cc i sts} h a ha => by
    have hK : ExIs X.K H0 F' H' d fs := hx
    obtain ⟨F2', x, hxd, st⟩ := suite_sta (a := a) (C := C) s' hK i
    intro oe pn' hz hf
    refine (h (X.suite a ((a, oe) :: pn')) a d ⟨X, oe, pn', rfl, hz, hf⟩ rfl rfl rfl rfl x hxd).run _ F0 H0 Fl F2' H' _ (fun _ _ _ _ => False) st ?_
    refine ⟨fun σ2 env2 F2 H2 s2 q2 => o.nx _ _ F2 H2 ⟨s2.step, s2.env.wipe, s2.fl⟩ q2, fun v d σ2 env2 F2 H2 s2 hv q2 => o.rt v d σ2 env2 F2 H2 ⟨s2.step, s2.env, s2.fl⟩ hv q2, fun _ _ _ _ _ z => z.elim, fun _ _ _ _ _ z => z.elim, takes0, fun _ _ _ _ _ _ _ _ _ z => z.elim, fun _ _ _ _ _ _ _ _ _ z => z.elim⟩
  obtain ⟨r1, e1, y1, n1'⟩ := q
  refine ⟨r1, by rw [dx.K_]; exact e1, fun hb a ha => suite (cc := c1) (y1 hb) a ha, fun hb => ?_⟩
  obtain ⟨r2, e2, y2, n2'⟩ := n1' hb
  refine ⟨r2, by rw [dx.K_]; exact e2, fun hb a ha => suite (cc := c2) (y2 hb) a ha, fun hb => ?_⟩
  exact o.ex σ' env' F' H' C d fs s' hx (n2' hb)
end
end DL
set_option Elab.async false
set_option linter.all false
set_option maxRecDepth 100000
set_option autoImplicit false
/-! DL, part 11: chains of comparisons, a def with a try, small facts. -/
namespace DL
open PySem L2
section
variable {X : Cx} {m : Option Mem} {env : Ev} {a b c : Expr} {Q : D → Prop} {pos : Pos}
theorem we_lele (hm : lastMarks [.LtE, .LtE] [b, c] = false) (w : WE X m env a fun x => WE X m env b fun y => asInt x fun i => asInt y fun j => if decide (i ≤ j) = true then WE X m env c fun z => asInt z fun k => Q (.bl (decide (j ≤ k))) else Q (.bl false)) : WE X m env (.Compare a [.LtE, .LtE] [b, c] pos) Q :=
  we_chain op_le op_le (pe_chain op_le op_le pe_can pe_can pe_can hm) w
theorem we_lelt (hm : lastMarks [.LtE, .Lt] [b, c] = false) (w : WE X m env a fun x => WE X m env b fun y => asInt x fun i => asInt y fun j => if decide (i ≤ j) = true then WE X m env c fun z => asInt z fun k => Q (.bl (decide (j < k))) else Q (.bl false)) : WE X m env (.Compare a [.LtE, .Lt] [b, c] pos) Q :=
  we_chain op_le op_lt (pe_chain op_le op_lt pe_can pe_can pe_can hm) w
theorem wt_lele {P : Bool → Prop} (hm : lastMarks [.LtE, .LtE] [b, c] = false)
    (w : WE X m env a fun x => WE X m env b fun y => asInt x fun i => asInt y fun j => if decide (i ≤ j) = true then WE X m env c fun z => asInt z fun k => P (decide (j ≤ k)) else P false) : WT X m env (.Compare a [.LtE, .LtE] [b, c] pos) P := by
  refine ⟨fun σ H0 F H k g ev t => ttc (pt_chain op_le op_le pe_can pe_can pe_can hm) ?_⟩
  refine w.run σ H0 F H _ g ev fun x dx F1 H1 s1 hx w1 => ?_
  refine w1.run σ H0 F1 H1 _ s1.good (ev.step s1) fun y dy F2 H2 s2 hy q => ?_
  obtain ⟨i, rfl, rfl, q1⟩ := hx.asInt q
  obtain ⟨j, rfl, rfl, q2⟩ := hy.asInt q1
  refine ⟨i, j, rfl, rfl, decide (i ≤ j), rfl, ?_⟩
  cases e : decide (i ≤ j) with
  | true =>
    rw [if_pos e] at q2
    rw [if_pos rfl]
    refine q2.run σ H0 F2 H2 _ s2.good ((ev.step s1).step s2) fun z dz F3 H3 s3 hz qz => ?_
    obtain ⟨n, rfl, rfl, qz⟩ := hz.asInt qz
    exact ⟨j, n, rfl, rfl, _, rfl, (((t.after s1).after s2).after s3).at s3.good qz⟩
  | false =>
    rw [if_neg (by rw [e]; exact Bool.false_ne_true)] at q2
    rw [if_neg Bool.false_ne_true]
    exact ⟨_, rfl, ((t.after s1).after s2).at s2.good q2⟩
end
def D.isInt : D → Bool | .int _ => true | _ => false
def D.isBl : D → Bool | .bl _ => true | _ => false
def D.isLst : D → Bool | .lst _ => true | _ => false
def D.plain (d : D) : Prop := ∃ n, d.tyn = some n
theorem kit_int {d : D} {n : String} (h : d.tyn = some n) : kitB n "int" = some (d.isInt || d.isBl) := by
  cases d <;> simp only [D.tyn, Option.some.injEq, reduceCtorEq] at h <;> subst h
  · exact (by decide +kernel : kitB "NoneType" "int" = some false)
  · exact (by decide +kernel : kitB "bool" "int" = some true)
  · exact (by decide +kernel : kitB "int" "int" = some true)
  · exact (by decide +kernel : kitB "str" "int" = some false)
  all_goals first
  | exact (by decide +kernel : kitB "list" "int" = some false)
  | exact (by decide +kernel : kitB "tuple" "int" = some false)
theorem kit_bool {d : D} {n : String} (h : d.tyn = some n) : kitB n "bool" = some d.isBl := by
  cases d <;> simp only [D.tyn, Option.some.injEq, reduceCtorEq] at h <;> subst h
  · exact (by decide +kernel : kitB "NoneType" "bool" = some false)
  · exact (by decide +kernel : kitB "bool" "bool" = some true)
  · exact (by decide +kernel : kitB "int" "bool" = some false)
  · exact (by decide +kernel : kitB "str" "bool" = some false)
  all_goals first
  | exact (by decide +kernel : kitB "list" "bool" = some false)
  | exact (by decide +kernel : kitB "tuple" "bool" = some false)
theorem kit_list {d : D} {n : String} (h : d.tyn = some n) : kitB n "list" = some d.isLst := by
  cases d <;> simp only [D.tyn, Option.some.injEq, reduceCtorEq] at h <;> subst h
  · exact (by decide +kernel : kitB "NoneType" "list" = some false)
  · exact (by decide +kernel : kitB "bool" "list" = some false)
  · exact (by decide +kernel : kitB "int" "list" = some false)
  · exact (by decide +kernel : kitB "str" "list" = some false)
  all_goals first
  | exact (by decide +kernel : kitB "list" "list" = some true)
  | exact (by decide +kernel : kitB "tuple" "list" = some false)
/-- as okD2, for a def with a try: its frame is its own -/
theorem Fun.okD3 {P : Program} {w : World} {K : PySem.W.Frag} {mg : Str → Option Value} {base : Heap} {x qual : Str} {st : Stmt} {f : Addr} {fd : FuncData} {N Vn L G ps : List Str} {k : Nat} {A : List D → (D → Prop) → Prop} (Fn : Fun K x qual st f fd) (S : FnScope N ps (defScope st))
    (hv : ∀ x ∈ Vn, VisOk (defScope st) x = true) (hl : ∀ x ∈ L, LocOk (defScope st) x = true) (hg : ∀ x ∈ G, GlOk (defScope st) x = true)
    (hb : ∀ (X : Cx) (ds : List D) (Q : D → Prop), DX X P w K mg base N Vn L G (defScope st) k → X.stack = X.env :: X.outer → X.env.frame = some X.env.locals → ds.length = ps.length → A ds Q → WSs X none (envOf N ds) (defBody st) { nx := fun _ => Q .non, rt := fun d _ => Q d }) :
    FnOk P w K mg base (L2.CX P w) (k + 1) f fd ps (spD K none ps.length A) :=
  Fun.okD Fn S fun cdv Ar outer s H E ds Q hr h1 h2 => hb _ ds Q (dx_of (x := x) S hv hl hg hr) rfl rfl h1 h2
theorem kind_of {X : Cx} {P : Program} {w : World} {K : PySem.W.Frag} {mg : Str → Option Value} {base : Heap} {N Vn L G : List Str} {S : Scope} {k : Nat} {n : Str} (dx : DX X P w K mg base N Vn L G S k) (h : S.names.lookup n = some .local) : X.env.kindOf n = some .local := by
  show X.env.scope.names.lookup n = some .local
  rw [dx.S_]
  exact h
end DL
set_option Elab.async false
set_option linter.all false
set_option maxRecDepth 100000
set_option autoImplicit false
/-! DL, part 12: comprehensions over range(a, b); the def that makes the bag; the law's own def. -/
namespace DL
open PySem L2
section
variable {X : Cx} {m : Option Mem} {env : Ev} {a b c e elt iter tg : Expr} {es : List Expr} {pos p2 p3 pr : Pos} {scope : Scope} {x : Str} {t : Nat}
theorem we_neg {Q : D → Prop} {pos : Pos} (w : WE X m env a fun x => asInt x fun c => Q (.int (-c))) : WE X m env (.UnaryOp .USub a pos) Q := by
  refine ⟨fun σ H0 F H k g ev t => tec (pe_un un_neg pe_can) ?_⟩
  refine w.run σ H0 F H _ g ev fun v d F1 H1 s1 hv q => ?_
  obtain ⟨c, rfl, rfl, q⟩ := hv.asInt q
  exact ⟨c, rfl, (t.after s1).at s1.good (.int _) q⟩
theorem wl_compR2 (t : Nat) (own : List (Str × Nat)) (hown : own.map (·.2) = [t]) (hc : X.calm = true) (hN : X.N.Nodup) (ok : BlkOk X.N X.env.scope scope own) (hg : ∀ (s : Shared) (H : Hp) (C : Addr) (cl : List (Str × Addr)) (fp : List Addr), PG (X.blk s H scope (compEnvC scope cl C X.env) fp) tg (gName t))
    (hrg : Gl X "range") (hrm : X.mg "range" = none) (hst : starEach [a, b] X.env = [(false, eval a X.env), (false, eval b X.env)]) (hst2 : starEach [b] X.env = [(false, eval b X.env)])
    (hs : ∀ x, foldedSetIterable (.Call (.Name "range" p2) [a, b] [] pr) X.env x = pure x) {P : List D → Prop}
    (w : WE X m env a fun x => WE X m env b fun y => asInt x fun u => asInt y fun n => (-1000000 ≤ u ∧ u ≤ 1000000 ∧ -1000000 ≤ n ∧ n ≤ 1000000 ∧ n - u ≤ 1000000) ∧ ∃ Pi : Nat → D → Prop, (∀ (i : Nat), u + (i : Int) < n → WB X m ((env.set t none).set t (some (.frz (.int (u + i))))) scope elt (Pi i)) ∧ ∀ es : List D, es.length = (n - u).toNat → (∀ (i : Nat) (e : D), es[i]? = some e → Pi i e) → P es) :
    WL X m env (.ListComp elt [⟨tg, .Call (.Name "range" p2) [a, b] [] pr, [], 0⟩] scope pos) P := by
  refine ⟨fun σ H0 F H k g ev th => tec (pe_lc (te := TBc X scope elt) hc hN (pi_range2 hrg hrm (pa_cons pe_can (pa_cons pe_can pa_nil hst2) (by rw [hst, hst2])) hst hst2) ok hg (fun _ _ _ _ _ => pts_nil) (fun s H C cl fp => ⟨fun pins s2 σ2 H2 Q I h => h s H C cl fp pins s2 I⟩) hs) ?_⟩
  refine w.run σ H0 F H _ g ev fun v d F1 H1 s1 hv w1 => ?_
  refine w1.run σ H0 F1 H1 _ s1.good (ev.step s1) fun v2 d2 F2 H2 s2 hv2 q => ?_
  obtain ⟨u, rfl, rfl, q⟩ := hv.asInt q
  obtain ⟨n, rfl, rfl, hz, Pi, hP, hQ⟩ := hv2.asInt q
  have st := s1.trans s2
  refine ⟨u, n, rfl, ⟨by omega, by omega, by omega, by omega⟩, fun L hL => ?_⟩
  rw [hown]
  refine lc_range (CompI X.K m F2 H2 L Pi) (comp_start (σ := σ) s2.good hL) (fun i H3 hi I => ?_) fun H3 I => ?_
  · exact comp_turn ((ev.step s1).step s2) hL (s2.good.notm hL) (by omega) I (fun F' sm => .int _) (hP i (by omega))
  · exact comp_end g st hL I th hQ
end
section
variable {X : Cx} {P : Program} {w : World} {K : PySem.W.Frag} {mg : Str → Option Value} {base : Heap} {N Vn L G B : List Str} {S : Scope} {k k2 n : Nat} {x : Str} {i j j2 : Nat}
variable {m : Option Mem} {env : Ev} {a b c e iter elt o tg : Expr} {es : List Expr} {Q : D → Prop} {pos p2 p3 p4 pr : Pos} {R : DEnds} {rest body els : List Stmt} {ps : List Str} {A : List D → (D → Prop) → Prop} {C : Addr}
theorem dl_compR2 (t : Nat) (own : List (Str × Nat)) (Vc Gc : List Str) {scope : Scope} (dx : DX X P w K mg base N Vn L G S k) (bn : NoMg mg B) (ok : blkC N S scope own = true) (hown : own.map (·.2) = [t]) (h1 : At N t x) (hx : LocOk scope x = true) (hv : ∀ x ∈ Vc, VisOk (relS scope S) x = true) (hg : ∀ x ∈ Gc, GlOk (relS scope S) x = true)
    (h3 : At G j "range") (h4 : At B j2 "range") (hst : starEach [a, b] X.env = [(false, eval a X.env), (false, eval b X.env)]) (hst2 : starEach [b] X.env = [(false, eval b X.env)]) (hs : ∀ y, foldedSetIterable (.Call (.Name "range" p3) [a, b] [] pr) X.env y = pure y) {Q : List D → Prop}
    (hw : WE X m env a fun x => WE X m env b fun y => asInt x fun u => asInt y fun n => (-1000000 ≤ u ∧ u ≤ 1000000 ∧ -1000000 ≤ n ∧ n ≤ 1000000 ∧ n - u ≤ 1000000) ∧ ∃ Pi : Nat → D → Prop, (∀ (i : Nat), u + (i : Int) < n → ∀ X', DX X' P w K mg base N Vc [] Gc (relS scope S) k → X'.K = X.K → WE X' m ((env.set t none).set t (some (.frz (.int (u + i))))) elt (Pi i)) ∧ ∀ es : List D, es.length = (n - u).toNat → (∀ (i : Nat) (e : D), es[i]? = some e → Pi i e) → Q es) :
    WL X m env (.ListComp elt [⟨.Name x p2, .Call (.Name "range" p3) [a, b] [] pr, [], 0⟩] scope pos) Q := by
  refine wl_compR2 t own hown dx.calm dx.ndX (by rw [dx.N_, dx.S_]; exact blkOk_by ok) (blk_pg dx h1 hx) (dx.g h3).1 (dx.b bn h4) hst hst2 hs (hw.mono fun d q => q.mono fun d2 q => ?_)
  cases d <;> first | exact q.elim | skip
  cases d2 <;> first | exact q.elim | skip
  obtain ⟨hz, Pi, h2, h3⟩ := q
  exact ⟨hz, Pi, fun i hd => ⟨fun s H C cl fp => h2 i hd _ (blk_dx dx hv hg s H C cl fp) rfl⟩, h3⟩
end
/-! ### the bag: made new, and then handed about -/
/-- a def that gives a new list of its own -/
def spN (K : PySem.W.Frag) (n : Nat) (A : List D → (List D → Prop) → Prop) : Sp := fun vs H Q _ => vs.length = n ∧ ∃ F ds P, Good K none F H ∧ IsAll K F vs ds ∧ A ds P ∧ ThenL K none F H P Q
section
variable {P : Program} {w : World} {K : PySem.W.Frag} {mg : Str → Option Value} {base : Heap}
/-- `return [..]`, and nothing else -/
theorem Fun.okN {x qual : Str} {st : Stmt} {f : Addr} {fd : FuncData} {N Vn L G ps : List Str} {k : Nat} {e : Expr} {pos : Pos} {A : List D → (List D → Prop) → Prop} (Fn : Fun K x qual st f fd) (S : FnScope N ps (defScope st)) (hbody : defBody st = [.Return (some e) pos])
    (hv : ∀ x ∈ Vn, VisOk (defScope st) x = true) (hl : ∀ x ∈ L, LocOk (defScope st) x = true) (hg : ∀ x ∈ G, GlOk (defScope st) x = true)
    (hb : ∀ (X : Cx) (ds : List D) (Q : List D → Prop), DX X P w K mg base N Vn L G (defScope st) k → ds.length = ps.length → A ds Q → WL X none (envOf N ds) e Q) :
    FnOk P w K mg base (L2.CX P w) (k + 1) f fd ps (spN K ps.length A) := by
  refine Fn.okX S (fun vs H Q E h => h.1) fun cdv Ar outer s H vs Q E hr h => ⟨_, by rw [hbody]; exact pss_cons (ps_ret pe_can) pss_nil, ?_⟩
  obtain ⟨hl', F, ds, Q', g, ha, hA, t⟩ := h
  exact (hb _ ds Q' (dx_of (x := x) S hv hl hg hr) (by rw [← ha.length]; exact hl') hA).run _ H F H _ g (envs_start ha) t
end
section
variable {X : Cx} {P : Program} {w : World} {K : PySem.W.Frag} {mg : Str → Option Value} {base : Heap} {N Vn L G B : List Str} {S : Scope} {k k2 n : Nat} {x y : Str} {i j j2 : Nat}
variable {env : Ev} {e : Expr} {es : List Expr} {Q : D → Prop} {pos p2 p3 p4 : Pos} {rest : List Stmt} {ps : List Str} {A : List D → (List D → Prop) → Prop}
end
end DL
set_option Elab.async false
set_option linter.all false
set_option maxRecDepth 100000
set_option autoImplicit false
/-! DL, part 13: name = [.. for ..]. -/
namespace DL
open PySem L2
section
variable {X : Cx} {m : Option Mem} {env : Ev} {a b c e elt iter tg : Expr} {es : List Expr} {pos p2 p3 pr py spos : Pos} {scope : Scope} {x y : Str} {t : Nat} {R : DEnds}
theorem thF {F0 H0 Fl F H : Hp} {σ : L2.St} {De : Ends} {W : WX} {i : Nat} (s : Sta X.K m F0 H0 Fl F H σ env) (o : EndsOk X m F0 H0 Fl R De W) : ThenL X.K m F H (fun es => R.nx (env.set i (some (.frz (.lst es))))) (fun x H1 => De.nx (σ.set i (some x)) H1) := fun p xs ds F' H' h1 h2 st e ha hP => by
  have g := s.good
  have hm : ¬ Touch m p := g.notm h1
  have st2 : Step X.K m F H (upd F' p (.lst xs)) H' := by
    refine ⟨st.fs.trans (same_upd h2), st.good.freeze h2 hm e, fun a q1 q2 => ?_, st.keep⟩
    by_cases hap : a = p
    · subst hap; exact h1
    · rw [upd_ne hap] at q2; exact st.new a q1 q2
  exact o.nx _ _ _ H' ⟨s.step.trans st2, (s.env.step st2).frz (.lst upd_same (ha.mono (same_upd h2))), s.fl.trans st2.fs⟩ hP
theorem ws_setComp (i : Nat) (t : Nat) (own : List (Str × Nat)) (hown : own.map (·.2) = [t]) (hc : X.calm = true) (hN : X.N.Nodup) (hy : X.N[i]? = some y) (hyl : X.env.scope.names.lookup y = some .local) (hsw : swapsWith (.ListComp elt [⟨tg, iter, [], 0⟩] scope pos) (some (.Name y py)) spos.line X.env = pure true)
    (ok : BlkOk X.N X.env.scope scope own) (hg : ∀ (s : Shared) (H : Hp) (C : Addr) (cl : List (Str × Addr)) (fp : List Addr), PG (X.blk s H scope (compEnvC scope cl C X.env) fp) tg (gName t))
    (hs : ∀ x, foldedSetIterable iter X.env x = pure x)
    (w : WE X m env iter fun x => asLst x fun ds => ds.length ≤ 1000000 ∧ ∃ Pi : Nat → D → Prop, (∀ (i : Nat) (d : D), ds[i]? = some d → WB X m ((env.set t none).set t (some (.frz d))) scope elt (Pi i)) ∧ ∀ es : List D, es.length = ds.length → (∀ (i : Nat) (e : D), es[i]? = some e → Pi i e) → R.nx (env.set i (some (.frz (.lst es))))) :
    WS X m env (.Assign [.Name y py] (.ListComp elt [⟨tg, iter, [], 0⟩] scope pos) spos) R := by
  refine ⟨fun σ F0 H0 Fl F H De W s o => tsc (ps_setLc (te := TBc X scope elt) hc hN hy hyl hsw (pi_list pe_can) ok hg (fun _ _ _ _ _ => pts_nil) (fun s H C cl fp => ⟨fun pins s2 σ2 H2 Q I h => h s H C cl fp pins s2 I⟩) hs) ?_⟩
  have th := thF (i := i) s o
  have g := s.good
  have ev := s.env
  refine w.run σ H0 F H _ g ev fun v d F1 H1 s1 hv q => ?_
  obtain ⟨p, xs, ds, rfl, rfl, h1, h2, hz, Pi, hP, hQ⟩ := hv.asLst q
  have h1' := s1.good.sub _ _ h1
  refine ⟨p, rfl, ⟨xs, .of h1'⟩, fun L hL => ?_⟩
  rw [hown]
  have hpL : p ≠ L := ne_of_none h1' hL
  refine lc_list (K := X.K) (a := p) (xs := xs) (CompI X.K m F1 H1 L Pi) (comp_start (σ := σ) s1.good hL) (fun i H2 hi I => ?_) (fun i v H2 hi I => ?_) fun H2 I => ?_
  · obtain ⟨F', acc, es, s2, _⟩ := I
    exact .of (s2.good.sub _ _ (s2.fs _ _ h1))
  · obtain ⟨d, hd, iv⟩ := h2.getV hi
    have hlt : i < ds.length := (List.getElem?_eq_some_iff.mp hd).1
    exact comp_turn (ev.step s1) hL (s1.good.notm hL) (by omega) I (fun F' sm => iv.mono sm) (hP i d hd)
  · exact comp_end g s1 hL (by rw [← h2.length]; exact I) th hQ
theorem ws_setCompR (i : Nat) (t : Nat) (own : List (Str × Nat)) (hown : own.map (·.2) = [t]) (hc : X.calm = true) (hN : X.N.Nodup) (hy : X.N[i]? = some y) (hyl : X.env.scope.names.lookup y = some .local) (hsw : swapsWith (.ListComp elt [⟨tg, .Call (.Name "range" p2) [a] [] pr, [], 0⟩] scope pos) (some (.Name y py)) spos.line X.env = pure true)
    (ok : BlkOk X.N X.env.scope scope own) (hg : ∀ (s : Shared) (H : Hp) (C : Addr) (cl : List (Str × Addr)) (fp : List Addr), PG (X.blk s H scope (compEnvC scope cl C X.env) fp) tg (gName t))
    (hrg : Gl X "range") (hrm : X.mg "range" = none) (hst : starEach [a] X.env = [(false, eval a X.env)])
    (hs : ∀ x, foldedSetIterable (.Call (.Name "range" p2) [a] [] pr) X.env x = pure x)
    (w : WE X m env a fun x => asInt x fun n => (-1000000 ≤ n ∧ n ≤ 1000000) ∧ ∃ Pi : Nat → D → Prop, (∀ (i : Nat), (i : Int) < n → WB X m ((env.set t none).set t (some (.frz (.int i)))) scope elt (Pi i)) ∧ ∀ es : List D, es.length = n.toNat → (∀ (i : Nat) (e : D), es[i]? = some e → Pi i e) → R.nx (env.set i (some (.frz (.lst es))))) :
    WS X m env (.Assign [.Name y py] (.ListComp elt [⟨tg, .Call (.Name "range" p2) [a] [] pr, [], 0⟩] scope pos) spos) R := by
  refine ⟨fun σ F0 H0 Fl F H De W s o => tsc (ps_setLc (te := TBc X scope elt) hc hN hy hyl hsw (pi_range1 hrg hrm (pa_cons pe_can pa_nil hst) hst) ok hg (fun _ _ _ _ _ => pts_nil) (fun s H C cl fp => ⟨fun pins s2 σ2 H2 Q I h => h s H C cl fp pins s2 I⟩) hs) ?_⟩
  have th := thF (i := i) s o
  have g := s.good
  have ev := s.env
  refine w.run σ H0 F H _ g ev fun v d F1 H1 s1 hv q => ?_
  obtain ⟨n, rfl, rfl, hz, Pi, hP, hQ⟩ := hv.asInt q
  refine ⟨n, rfl, by omega, by omega, fun L hL => ?_⟩
  rw [hown]
  refine lc_range (CompI X.K m F1 H1 L Pi) (comp_start (σ := σ) s1.good hL) (fun i H2 hi I => ?_) fun H2 I => ?_
  · have hlt : (i : Int) < n := by omega
    have e0 : ((0 : Int) + (i : Int)) = (i : Int) := by omega
    rw [e0]
    exact comp_turn (ev.step s1) hL (s1.good.notm hL) (by omega) I (fun F' sm => .int _) (hP i hlt)
  · exact comp_end g s1 hL I th hQ
end
section
variable {X : Cx} {P : Program} {w : World} {K : PySem.W.Frag} {mg : Str → Option Value} {base : Heap} {N Vn L G B : List Str} {S : Scope} {k k2 n : Nat} {x y : Str} {i j j2 j3 : Nat}
variable {m : Option Mem} {env : Ev} {a b c e iter elt o tg : Expr} {es : List Expr} {Q : D → Prop} {pos p2 p3 p4 pr py spos : Pos} {R : DEnds} {rest body els : List Stmt} {ps : List Str}
theorem dl_setComp (t : Nat) (own : List (Str × Nat)) (Vc Gc : List Str) {scope : Scope} (dx : DX X P w K mg base N Vn L G S k) (h5 : At N i y) (hS : S.kind = .function) (hy : S.names.lookup y = some .local) (hln : (py.line == pos.line) = true) (hno : (scope.names.any fun (n, k) => n == y && (k == .local || k == .cell)) = false)
    (ok : blkC N S scope own = true) (hown : own.map (·.2) = [t]) (h1 : At N t x) (hx : LocOk scope x = true) (hv : ∀ x ∈ Vc, VisOk (relS scope S) x = true) (hg : ∀ x ∈ Gc, GlOk (relS scope S) x = true)
    (hs : ∀ y, foldedSetIterable iter X.env y = pure y)
    (hw : WE X m env iter fun x => asLst x fun ds => ds.length ≤ 1000000 ∧ ∃ Pi : Nat → D → Prop, (∀ (i : Nat) (d : D), ds[i]? = some d → ∀ X', DX X' P w K mg base N Vc [] Gc (relS scope S) k → X'.K = X.K → WE X' m ((env.set t none).set t (some (.frz d))) elt (Pi i)) ∧ ∀ es : List D, es.length = ds.length → (∀ (i : Nat) (e : D), es[i]? = some e → Pi i e) → R.nx (env.set i (some (.frz (.lst es))))) :
    WS X m env (.Assign [.Name y py] (.ListComp elt [⟨.Name x p2, iter, [], 0⟩] scope pos) spos) R := by
  refine ws_setComp i t own hown dx.calm dx.ndX (dx.n h5) (by rw [dx.S_]; exact hy) (sw_true (by rw [dx.S_]; exact hS) (by rw [dx.S_]; exact hy) hln hno) (by rw [dx.N_, dx.S_]; exact blkOk_by ok) (blk_pg dx h1 hx) hs (hw.mono fun d q => ?_)
  cases d <;> first | exact q.elim | skip
  obtain ⟨hz, Pi, h2, h3⟩ := q
  exact ⟨hz, Pi, fun i d hd => ⟨fun s H C cl fp => h2 i d hd _ (blk_dx dx hv hg s H C cl fp) rfl⟩, h3⟩
theorem dl_setCompR (t : Nat) (own : List (Str × Nat)) (Vc Gc : List Str) {scope : Scope} (dx : DX X P w K mg base N Vn L G S k) (bn : NoMg mg B) (h5 : At N i y) (hS : S.kind = .function) (hy : S.names.lookup y = some .local) (hln : (py.line == pos.line) = true) (hno : (scope.names.any fun (n, k) => n == y && (k == .local || k == .cell)) = false)
    (ok : blkC N S scope own = true) (hown : own.map (·.2) = [t]) (h1 : At N t x) (hx : LocOk scope x = true) (hv : ∀ x ∈ Vc, VisOk (relS scope S) x = true) (hg : ∀ x ∈ Gc, GlOk (relS scope S) x = true)
    (h3 : At G j "range") (h4 : At B j2 "range") (hst : starEach [a] X.env = [(false, eval a X.env)]) (hs : ∀ y, foldedSetIterable (.Call (.Name "range" p3) [a] [] pr) X.env y = pure y)
    (hw : WE X m env a fun x => asInt x fun n => (-1000000 ≤ n ∧ n ≤ 1000000) ∧ ∃ Pi : Nat → D → Prop, (∀ (i : Nat), (i : Int) < n → ∀ X', DX X' P w K mg base N Vc [] Gc (relS scope S) k → X'.K = X.K → WE X' m ((env.set t none).set t (some (.frz (.int i)))) elt (Pi i)) ∧ ∀ es : List D, es.length = n.toNat → (∀ (i : Nat) (e : D), es[i]? = some e → Pi i e) → R.nx (env.set i (some (.frz (.lst es))))) :
    WS X m env (.Assign [.Name y py] (.ListComp elt [⟨.Name x p2, .Call (.Name "range" p3) [a] [] pr, [], 0⟩] scope pos) spos) R := by
  refine ws_setCompR i t own hown dx.calm dx.ndX (dx.n h5) (by rw [dx.S_]; exact hy) (sw_true (by rw [dx.S_]; exact hS) (by rw [dx.S_]; exact hy) hln hno) (by rw [dx.N_, dx.S_]; exact blkOk_by ok) (blk_pg dx h1 hx) (dx.g h3).1 (dx.b bn h4) hst hs (hw.mono fun d q => ?_)
  cases d <;> first | exact q.elim | skip
  obtain ⟨hz, Pi, h2, h3⟩ := q
  exact ⟨hz, Pi, fun i hd => ⟨fun s H C cl fp => h2 i hd _ (blk_dx dx hv hg s H C cl fp) rfl⟩, h3⟩
end
end DL
set_option Elab.async false
set_option linter.all false
set_option maxRecDepth 100000
set_option autoImplicit false
/-! DL, part 14: an own list that is read as if it stayed, where the answer is flat. -/
namespace DL
open PySem L2
section
variable {K : PySem.W.Frag} {m : Option Mem} {F H F' H' : Hp} {H0 : Hp} {σ : L2.St} {env : Ev}
theorem Envs.any (h : Envs K m H0 F H σ env) : Envs K none H0 F H σ env := ⟨fun i s e => by
  obtain ⟨v, h1, h2⟩ := h.at_ i s e
  refine ⟨v, h1, ?_⟩
  cases s with
  | frz d => exact h2
  | lent d =>
    rcases h2 with h2 | ⟨R, hR, h2⟩
    · exact .inl h2
    · exact .inr ⟨R, hR.any, h2⟩
  | own p c =>
    obtain ⟨ho, e1, _, e3⟩ := h2
    exact ⟨ho, e1, (fun z => nomatch z), e3⟩
  | prv d => exact ⟨h2.1.move (Same.refl _) fun _ _ _ hf ho => ⟨⟨(fun z => nomatch z), hf.2⟩, ho⟩, h2.2⟩, h.len, h.apart, h.apt⟩
/-- what only read: the frozen part may be taken as it was -/
theorem Step.back {F1 : Hp} (g : Good K m F H) (s : Step K none F1 H F' H') : Step K m F H F H' := by
  have kp : ∀ a o, H a = some o → H' a = some o := fun a o h => s.keep a o (fun z => nomatch z) h
  refine ⟨Same.refl _, ⟨fun a o h => kp a o (g.sub a o h), fun c hc => ?_⟩, fun a h1 h2 => absurd h1 h2, fun a o _ h => kp a o h⟩
  obtain ⟨h1, h2⟩ := g.bag c hc
  obtain ⟨⟨o, ho⟩, o2, ho2⟩ := h2.some
  exact ⟨h1, h2.mono ((kp _ o ho).trans ho.symm) ((kp _ o2 ho2).trans ho2.symm)⟩
end
section
variable {X : Cx} {m : Option Mem} {env : Ev} {e : Expr}
theorem we_lend (i : Nat) {p : Addr} {ds : List D} {P : D → Prop} (he : env[i]? = some (some (.own p (.lst ds)))) (hf : ∀ d, P d → ∃ w, DL.flat d = some w) (h : WE X none (env.set i (some (.frz (.lst ds)))) e P) : WE X m env e P := by
  refine ⟨fun σ H0 F H k g ev t => ?_⟩
  obtain ⟨xs, hσ, hm, hF, h0, hH, ha, g', ev'⟩ := ev.freeze g he
  refine h.run σ H0 _ H k g'.any ev'.any fun v d F' H' s hv hP => ?_
  obtain ⟨w, hw⟩ := hf d hP
  obtain rfl := hv.flat hw
  exact t _ d F H' (s.back g) (is_flat hw) hP
theorem wt_lend (i : Nat) {p : Addr} {ds : List D} {P : Bool → Prop} (he : env[i]? = some (some (.own p (.lst ds)))) (h : WT X none (env.set i (some (.frz (.lst ds)))) e P) : WT X m env e P := by
  refine ⟨fun σ H0 F H k g ev t => ?_⟩
  obtain ⟨xs, hσ, hm, hF, h0, hH, ha, g', ev'⟩ := ev.freeze g he
  exact h.run σ H0 _ H k g'.any ev'.any fun b F' H' s hP => t b F H' (s.back g) hP
end
end DL
set_option Elab.async false
set_option linter.all false
set_option maxRecDepth 100000
set_option autoImplicit false
/-! DL, part 15: lists that a caller may still change; what is new may be changed. -/
namespace DL
open PySem L2
/-! ### lists of flat data -/
def Flats (ds : List D) : Prop := ∀ d ∈ ds, ∃ w, DL.flat d = some w
section
variable {K : PySem.W.Frag} {m : Option Mem} {F F' H F2 H' : Hp} {H0 : Hp} {σ : L2.St} {env : Ev} {xs ys : List V} {ds : List D}
theorem flats_ints {ns : List Int} : Flats (ns.map D.int) := fun d hd => by
  obtain ⟨n, _, rfl⟩ := List.mem_map.mp hd
  exact ⟨_, rfl⟩
theorem IsAll.flats : ∀ {xs : List V} {ds : List D}, IsAll K F xs ds → Flats ds → IsAll K F' xs ds
  | _, _, .nil, _ => .nil
  | _, _, .cons h t, f => by
    obtain ⟨w, hw⟩ := f _ (List.mem_cons_self ..)
    obtain rfl := h.flat hw
    exact .cons (is_flat hw) (t.flats fun d hd => f d (List.mem_cons_of_mem _ hd))
theorem flats_eq : ∀ {xs ys : List V} {ds : List D}, IsAll K F xs ds → IsAll K F' ys ds → Flats ds → xs = ys
  | _, _, _, .nil, h, _ => by cases h; rfl
  | _, _, _, .cons h t, h2, f => by
    cases h2 with
    | cons h' t' =>
      obtain ⟨w, hw⟩ := f _ (List.mem_cons_self ..)
      rw [h.flat hw, h'.flat hw, flats_eq t t' fun d hd => f d (List.mem_cons_of_mem _ hd)]
end
/-! ### an own list, read as if it stayed: a new list of flat data -/
section
variable {X : Cx} {m : Option Mem} {env : Ev} {e : Expr}
theorem wl_lend (i : Nat) {p : Addr} {ds : List D} {P : List D → Prop} (he : env[i]? = some (some (.own p (.lst ds)))) (hf : ∀ es, P es → Flats es) (h : WL X none (env.set i (some (.frz (.lst ds)))) e P) : WL X m env e P := by
  refine ⟨fun σ H0 F H k g ev t => ?_⟩
  obtain ⟨xs, hσ, hm, hF, h0, hH, ha, g', ev'⟩ := ev.freeze g he
  refine h.run σ H0 _ H k g'.any ev'.any fun p' xs' es F' H' h1 h2 s hH' ha' hP => ?_
  exact t p' xs' es F H' h1 (g.noF h1) (s.back g) hH' (ha'.flats (hf es hP)) hP
end
/-! ### a lent list -/
section
variable {K : PySem.W.Frag} {m : Option Mem} {F H F' H' : Hp} {H0 : Hp} {σ : L2.St} {env : Ev} {v : V} {d : D}
/-- two parts together -/
def both (F R : Hp) : Hp := fun a => match F a with | some o => some o | none => R a
theorem both_l {F R : Hp} : Same F (both F R) := fun a o e => by unfold both; rw [e]
theorem both_r {F R H : Hp} (h1 : Same F H) (h2 : Same R H) : Same R (both F R) := fun a o e => by
  unfold both
  cases e1 : F a with
  | some u =>
    have := h1 a u e1
    rw [h2 a o e] at this
    exact this.symm
  | none => exact e
theorem both_s {F R H : Hp} (h1 : Same F H) (h2 : Same R H) : Same (both F R) H := fun a o e => by
  unfold both at e
  cases e1 : F a with
  | some u => rw [e1] at e; cases e; exact h1 a _ e1
  | none => rw [e1] at e; exact h2 a o e
theorem LIs.lend (g : Good K m F H) (h : LIs K m H0 F H v d) : ∃ F1, Same F F1 ∧ Same F1 H ∧ Is K F1 v d ∧ ∀ q, F q = none → H0 q = none → F1 q = none := by
  rcases h with h | ⟨R, hR, h⟩
  · exact ⟨F, Same.refl _, g.sub, h, fun _ h _ => h⟩
  · have sR : Same R H := fun a o e => (hR a o e).1
    refine ⟨both F R, both_l, both_s g.sub sR, h.mono (both_r g.sub sR), fun q h1 h2 => ?_⟩
    unfold both
    rw [h1]
    cases e : R q with
    | none => rfl
    | some o =>
      obtain ⟨o', e'⟩ := (hR q o e).2.2
      rw [h2] at e'; cases e'
theorem Envs.lend {i : Nat} (g : Good K m F H) (h : Envs K m H0 F H σ env) (e : env[i]? = some (some (.lent d))) : ∃ F1, Good K none F1 H ∧ Envs K none H0 F1 H σ (env.set i (some (.frz d))) := by
  obtain ⟨v, hσ, hl⟩ := h.at_ i _ e
  obtain ⟨F1, s1, s2, hd, hn⟩ := LIs.lend g hl
  refine ⟨F1, ⟨s2, fun _ z => nomatch z⟩, ⟨fun j t ej => ?_, by rw [List.length_set]; exact h.len, fun j k ds es p hjk e1 e2 => ?_, h.apt.set fun s e => by cases e; rfl⟩⟩
  · rcases set_at ej with ⟨rfl, hl, ej⟩ | ⟨hij, ej⟩
    · cases ej
      exact ⟨v, hσ, hd⟩
    · obtain ⟨u, h1, h2⟩ := h.at_ j t ej
      refine ⟨u, h1, ?_⟩
      cases t with
      | frz d => exact Is.mono s1 h2
      | lent d =>
        rcases h2 with h2 | ⟨R, hR, h2⟩
        · exact .inl (Is.mono s1 h2)
        · exact .inr ⟨R, hR.any, h2⟩
      | prv d => exact ⟨h2.1.move s1 fun q hq o hf ho => ⟨⟨(fun z => nomatch z), hn q hf.2.1 hf.2.2, hf.2.2⟩, ho⟩, h2.2⟩
      | own p c =>
        obtain ⟨ho, e1, hm, e3, e4, e5, e6⟩ := h2
        exact ⟨ho, e1, (fun z => nomatch z), hn p e3 e4, e4, e5, e6.mono s1⟩
  · rcases set_at e1 with ⟨_, _, e1⟩ | ⟨hj, e1⟩
    · cases e1
    rcases set_at e2 with ⟨_, _, e2⟩ | ⟨hk, e2⟩
    · cases e2
    exact h.apart j k ds es p hjk e1 e2
end
section
variable {X : Cx} {m : Option Mem} {env : Ev} {e : Expr} {d : D}
theorem we_lent (i : Nat) {P : D → Prop} (he : env[i]? = some (some (.lent d))) (hf : ∀ d, P d → ∃ w, DL.flat d = some w) (h : WE X none (env.set i (some (.frz d))) e P) : WE X m env e P := by
  refine ⟨fun σ H0 F H k g ev t => ?_⟩
  obtain ⟨F1, g', ev'⟩ := ev.lend g he
  refine h.run σ H0 _ H k g' ev' fun v d F' H' s hv hP => ?_
  obtain ⟨w, hw⟩ := hf d hP
  obtain rfl := hv.flat hw
  exact t _ d F H' (s.back g) (is_flat hw) hP
theorem wt_lent (i : Nat) {P : Bool → Prop} (he : env[i]? = some (some (.lent d))) (h : WT X none (env.set i (some (.frz d))) e P) : WT X m env e P := by
  refine ⟨fun σ H0 F H k g ev t => ?_⟩
  obtain ⟨F1, g', ev'⟩ := ev.lend g he
  exact h.run σ H0 _ H k g' ev' fun b F' H' s hP => t b F H' (s.back g) hP
theorem wl_lent (i : Nat) {P : List D → Prop} (he : env[i]? = some (some (.lent d))) (hf : ∀ es, P es → Flats es) (h : WL X none (env.set i (some (.frz d))) e P) : WL X m env e P := by
  refine ⟨fun σ H0 F H k g ev t => ?_⟩
  obtain ⟨F1, g', ev'⟩ := ev.lend g he
  refine h.run σ H0 _ H k g' ev' fun p' xs' es F' H' h1 h2 s hH' ha' hP => ?_
  exact t p' xs' es F H' h1 (g.noF h1) (s.back g) hH' (ha'.flats (hf es hP)) hP
end
/-! ### arguments that are lent -/
def ReOk (m : Option Mem) (H R : Hp) : Prop := ∀ a o, R a = some o → H a = some o ∧ ¬ Touch m a
def AIs (K : PySem.W.Frag) (m : Option Mem) (F H : Hp) (v : V) (d : D) : Prop := Is K F v d ∨ ∃ R, ReOk m H R ∧ Is K R v d
inductive AAll (K : PySem.W.Frag) (m : Option Mem) (F H : Hp) : List Bool → List V → List D → Prop
  | nil : AAll K m F H [] [] []
  | frz {v : V} {d : D} {bs : List Bool} {vs : List V} {ds : List D} : Is K F v d → AAll K m F H bs vs ds → AAll K m F H (false :: bs) (v :: vs) (d :: ds)
  | lent {v : V} {d : D} {bs : List Bool} {vs : List V} {ds : List D} : AIs K m F H v d → AAll K m F H bs vs ds → AAll K m F H (true :: bs) (v :: vs) (d :: ds)
section
variable {K : PySem.W.Frag} {m : Option Mem} {F H F' H' : Hp} {H0 : Hp} {σ : L2.St} {env : Ev} {v : V} {d : D} {bs : List Bool} {vs : List V} {ds : List D}
theorem AIs.step (h : AIs K m F H v d) (t : Step K m F H F' H') : AIs K m F' H' v d := by
  rcases h with h | ⟨R, hR, h⟩
  · exact .inl (h.mono t.fs)
  · exact .inr ⟨R, fun a o e => ⟨t.keep a o (hR a o e).2 (hR a o e).1, (hR a o e).2⟩, h⟩
theorem AIs.any (h : AIs K m F H v d) : AIs K none F H v d := by
  rcases h with h | ⟨R, hR, h⟩
  · exact .inl h
  · exact .inr ⟨R, fun a o e => ⟨(hR a o e).1, (fun z => nomatch z)⟩, h⟩
/-- what stays here may be handed on as lent: then what is made of it is new -/
theorem AIs.out (g : Good K m F H) (h : AIs K m F H v d) : AIs K m (fun _ => none) H v d := by
  rcases h with h | h
  · refine .inr ⟨F, fun a o e => ⟨g.sub a o e, fun z => ?_⟩, h⟩
    cases z with
    | b c => rw [(g.bag c rfl).1.1] at e; cases e
    | l c => rw [(g.bag c rfl).1.2] at e; cases e
  · exact .inr h
theorem AAll.any : ∀ {bs : List Bool} {vs : List V} {ds : List D}, AAll K m F H bs vs ds → AAll K none F H bs vs ds
  | _, _, _, .nil => .nil
  | _, _, _, .frz h t => .frz h t.any
  | _, _, _, .lent h t => .lent h.any t.any
theorem AAll.len : ∀ {bs : List Bool} {vs : List V} {ds : List D}, AAll K m F H bs vs ds → vs.length = bs.length ∧ ds.length = bs.length
  | _, _, _, .nil => ⟨rfl, rfl⟩
  | _, _, _, .frz _ t => ⟨congrArg (· + 1) t.len.1, congrArg (· + 1) t.len.2⟩
  | _, _, _, .lent _ t => ⟨congrArg (· + 1) t.len.1, congrArg (· + 1) t.len.2⟩
theorem LIs.ais (h : LIs K m H0 F H v d) : AIs K m F H v d := by
  rcases h with h | ⟨R, hR, h⟩
  · exact .inl h
  · exact .inr ⟨R, fun a o e => ⟨(hR a o e).1, (hR a o e).2.1⟩, h⟩
/-- all of them as data, in a larger part -/
theorem AAll.frozen (g : Good K none F H) : ∀ {bs : List Bool} {vs : List V} {ds : List D}, AAll K none F H bs vs ds → ∃ F1, Same F F1 ∧ Good K none F1 H ∧ IsAll K F1 vs ds
  | _, _, _, .nil => ⟨F, Same.refl _, g, .nil⟩
  | _, _, _, .frz h t => by
    obtain ⟨F1, s1, g1, h1⟩ := t.frozen g
    exact ⟨F1, s1, g1, .cons (h.mono s1) h1⟩
  | _, _, _, .lent h t => by
    obtain ⟨F1, s1, g1, h1⟩ := t.frozen g
    rcases h with h | ⟨R, hR, h⟩
    · exact ⟨F1, s1, g1, .cons (h.mono s1) h1⟩
    · have sR : Same R H := fun a o e => (hR a o e).1
      exact ⟨both F1 R, s1.trans both_l, ⟨both_s g1.sub sR, fun _ z => nomatch z⟩, .cons (h.mono (both_r g1.sub sR)) (h1.mono both_l)⟩
end
structure WAL (X : Cx) (m : Option Mem) (env : Ev) (bs : List Bool) (es : List Expr) (P : List D → Prop) : Prop where
  run : ∀ σ H0 F H k, Good X.K m F H → Envs X.K m H0 F H σ env → (∀ vs ds F' H', Step X.K m F H F' H' → AAll X.K m F' H' bs vs ds → P ds → k vs H') → TAc X es σ H k
section
variable {X : Cx} {m : Option Mem} {env : Ev} {e : Expr} {es : List Expr} {bs : List Bool} {P : List D → Prop} {x : Str} {p2 : Pos}
theorem wal_nil (h : P []) : WAL X m env [] [] P := ⟨fun σ H0 F H k g ev t => tac pa_nil (t [] [] F H (.refl g) .nil h)⟩
theorem wal_cons (h : WE X m env e fun d => WAL X m env bs es fun ds => P (d :: ds)) (hs : starEach (e :: es) X.env = (false, eval e X.env) :: starEach es X.env) : WAL X m env (false :: bs) (e :: es) P := by
  refine ⟨fun σ H0 F H k g ev t => tac (pa_cons pe_can pa_can hs) ?_⟩
  refine h.run σ H0 F H _ g ev fun v d F1 H1 s1 hv w1 => ?_
  refine w1.run σ H0 F1 H1 _ s1.good (ev.step s1) fun vs ds F2 H2 s2 hvs q => ?_
  exact t _ _ F2 H2 (s1.trans s2) (.frz (hv.mono s2.fs) hvs) q
theorem wal_up (h : WE X m env e fun d => WAL X m env bs es fun ds => P (d :: ds)) (hs : starEach (e :: es) X.env = (false, eval e X.env) :: starEach es X.env) : WAL X m env (true :: bs) (e :: es) P := by
  refine ⟨fun σ H0 F H k g ev t => tac (pa_cons pe_can pa_can hs) ?_⟩
  refine h.run σ H0 F H _ g ev fun v d F1 H1 s1 hv w1 => ?_
  refine w1.run σ H0 F1 H1 _ s1.good (ev.step s1) fun vs ds F2 H2 s2 hvs q => ?_
  exact t _ _ F2 H2 (s1.trans s2) (.lent (.inl (hv.mono s2.fs)) hvs) q
theorem wal_own (i : Nat) {p : Addr} {ds : List D} (hN : X.N[i]? = some x) (hv : Vis X.env.scope x) (hd : (x == ("__debug__" : Str)) = false) (hcd : (x == ("__classdict__" : Str)) = false) (he : env[i]? = some (some (.own p (.lst ds))))
    (hs : starEach (.Name x p2 :: es) X.env = (false, eval (.Name x p2) X.env) :: starEach es X.env) (h : WAL X m env bs es fun es => P (.lst ds :: es)) : WAL X m env (true :: bs) (.Name x p2 :: es) P := by
  refine ⟨fun σ H0 F H k g ev t => tac (pa_cons (pe_var hN hv hd hcd) pa_can hs) ?_⟩
  obtain ⟨v, hσ, ho, rfl, hm, hF, h0, hH, xs, rfl, ha⟩ := ev.at_ i _ he
  refine ⟨.ref p, hσ, ?_⟩
  refine h.run σ H0 F H _ g ev fun vs es F2 H2 s2 hvs q => ?_
  have hA : AIs X.K m F H (.ref p) (.lst ds) := by
    refine .inr ⟨upd F p (.lst xs), fun a o e => ?_, .lst upd_same (ha.mono (same_upd hF))⟩
    by_cases hap : a = p
    · subst hap; rw [upd_same] at e; cases e; exact ⟨hH, hm⟩
    · rw [upd_ne hap] at e
      refine ⟨g.sub a o e, fun z => ?_⟩
      cases z with
      | b c => rw [(g.bag c rfl).1.1] at e; cases e
      | l c => rw [(g.bag c rfl).1.2] at e; cases e
  exact t _ _ F2 H2 s2 (.lent (hA.step s2) hvs) q
theorem wal_lent (i : Nat) {d : D} (hN : X.N[i]? = some x) (hv : Vis X.env.scope x) (hd : (x == ("__debug__" : Str)) = false) (hcd : (x == ("__classdict__" : Str)) = false) (he : env[i]? = some (some (.lent d)))
    (hs : starEach (.Name x p2 :: es) X.env = (false, eval (.Name x p2) X.env) :: starEach es X.env) (h : WAL X m env bs es fun es => P (d :: es)) : WAL X m env (true :: bs) (.Name x p2 :: es) P := by
  refine ⟨fun σ H0 F H k g ev t => tac (pa_cons (pe_var hN hv hd hcd) pa_can hs) ?_⟩
  obtain ⟨v, hσ, hl⟩ := ev.at_ i _ he
  refine ⟨v, hσ, ?_⟩
  refine h.run σ H0 F H _ g ev fun vs es F2 H2 s2 hvs q => ?_
  exact t _ _ F2 H2 s2 (.lent (hl.ais.step s2) hvs) q
end
/-! ### what is new may be changed: an expression over flat slots -/
def flatEnv (env : Ev) : Ev := env.map fun o => match o with | some (.frz d) => if (DL.flat d).isSome then some (.frz d) else none | _ => none
section
variable {X : Cx} {m : Option Mem} {env : Ev} {e : Expr}
theorem flatEnv_at {i : Nat} {s : Slot} (h : (flatEnv env)[i]? = some (some s)) : ∃ d w, s = .frz d ∧ DL.flat d = some w ∧ env[i]? = some (some s) := by
  unfold flatEnv at h
  rw [List.getElem?_map] at h
  cases e : env[i]? with
  | none => rw [e] at h; cases h
  | some o =>
    rw [e] at h
    cases o with
    | none => cases h
    | some s' =>
      cases s' with
      | own p c => cases h
      | lent d => cases h
      | prv d => cases h
      | frz d =>
        cases e2 : DL.flat d with
        | none =>
          exfalso
          have : (if (DL.flat d).isSome = true then some (Slot.frz d) else none) = some s := Option.some.inj h
          rw [e2] at this
          cases this
        | some w =>
          have : (if (DL.flat d).isSome = true then some (Slot.frz d) else none) = some s := Option.some.inj h
          rw [e2] at this
          cases this
          exact ⟨d, w, rfl, e2, rfl⟩
theorem Envs.flatten {K : PySem.W.Frag} {F H H0 : Hp} {σ : L2.St} (h : Envs K m H0 F H σ env) : Envs K m H0 (fun _ => none) H σ (flatEnv env) := by
  refine ⟨fun i s e => ?_, by unfold flatEnv; rw [List.length_map]; exact h.len, fun i j ds es p _ e1 => ?_, fun i j s t a _ e1 _ ha => by obtain ⟨d, w, rfl, _⟩ := flatEnv_at e1; cases ha⟩
  · obtain ⟨d, w, rfl, hw, e2⟩ := flatEnv_at e
    obtain ⟨v, hσ, hv⟩ := h.at_ i _ e2
    obtain rfl := Is.flat hv hw
    exact ⟨_, hσ, is_flat hw⟩
  · obtain ⟨d, w, z, _⟩ := flatEnv_at e1
    cases z
theorem wl_thaw {P : List D → Prop} (h : WE X m (flatEnv env) e fun d => ∃ ds, d = .lst ds ∧ Flats ds ∧ P ds) : WL X m env e P := by
  refine ⟨fun σ H0 F H k g ev t => ?_⟩
  have g0 : Good X.K m (fun _ => none) H := ⟨(fun _ _ z => nomatch z), fun c hc => ⟨⟨rfl, rfl⟩, (g.bag c hc).2⟩⟩
  refine h.run σ H0 _ H k g0 ev.flatten fun v d F' H' s hv hP => ?_
  obtain ⟨ds, rfl, hfl, hP⟩ := hP
  cases hv with
  | lst h1 h2 =>
    rename_i p xs
    have hp : H p = none := s.new p rfl (by rw [h1]; exact fun z => nomatch z)
    have kp : ∀ a o, F a = some o → H' a = some o := fun a o z => by
      by_cases tz : Touch m a
      · cases tz with
        | b c => rw [(g.bag c rfl).1.1] at z; cases z
        | l c =>
          have e1 := g.sub _ _ z
          rw [(g.bag c rfl).2.list] at e1
          rw [← e1]
          exact (s.good.bag c rfl).2.list
      · exact s.keep a o tz (g.sub a o z)
    refine t p xs ds F H' hp (g.noF hp) ⟨Same.refl _, ⟨fun a o z => kp a o z, fun c hc => ⟨(g.bag c hc).1, (s.good.bag c hc).2⟩⟩, fun a h1 h2 => absurd h1 h2, s.keep⟩ (s.good.sub _ _ h1) (h2.flats hfl) hP
end
end DL
set_option Elab.async false
set_option linter.all false
set_option maxRecDepth 100000
set_option autoImplicit false
/-! DL, part 16: defs whose arguments are lent. -/
namespace DL
open PySem L2
def slotOf : Bool → D → Option Slot | true, d => some (.lent d) | false, d => some (.frz d)
def envOfL (N : List Str) (bs : List Bool) (ds : List D) : Ev := List.zipWith slotOf bs ds ++ List.replicate (N.length - ds.length) none
section
variable {K : PySem.W.Frag} {F H : Hp}
theorem envOfL_noOwn {N : List Str} {bs : List Bool} {ds : List D} {i : Nat} {p : Addr} {c : Cel} : (envOfL N bs ds)[i]? ≠ some (some (.own p c)) := fun e => by
  unfold envOfL at e
  rcases List.mem_append.mp (List.mem_of_getElem? e) with h | h
  · obtain ⟨j, hj, ej⟩ := List.mem_iff_getElem.mp h
    rw [List.getElem_zipWith] at ej
    cases hb : bs[j]'(by simp at hj; omega) <;> rw [hb] at ej <;> cases ej
  · have := List.eq_of_mem_replicate h
    cases this
theorem envOfL_noPrv {N : List Str} {bs : List Bool} {ds : List D} {i : Nat} {d : D} : (envOfL N bs ds)[i]? ≠ some (some (.prv d)) := fun e => by
  unfold envOfL at e
  rcases Nat.lt_or_ge i (List.zipWith slotOf bs ds).length with hi | hi
  · rw [List.getElem?_append_left hi] at e
    obtain ⟨b, x, _, _, h⟩ := List.getElem?_zipWith_eq_some.mp e
    cases b <;> cases h
  · rw [List.getElem?_append_right hi] at e
    have := List.eq_of_mem_replicate (List.mem_of_getElem? e)
    cases this
theorem start_nil {N : List Str} {vs : List V} : (L2.start N vs) = vs.map some ++ List.replicate (N.length - vs.length) none := rfl
theorem aall_at : ∀ {bs : List Bool} {vs : List V} {ds : List D} {i : Nat} {s : Slot}, AAll K none F H bs vs ds → (List.zipWith slotOf bs ds)[i]? = some (some s) → ∃ v, vs[i]? = some v ∧ SlotOk K none H F H v s
  | _, _, _, i, s, .nil, e => by simp at e
  | _, _, _, 0, s, .frz h t, e => by cases e; exact ⟨_, rfl, h⟩
  | _, _, _, 0, s, .lent h t, e => by
    cases e
    refine ⟨_, rfl, ?_⟩
    rcases h with h | ⟨R, hR, h⟩
    · exact .inl h
    · exact .inr ⟨R, fun a o e => ⟨(hR a o e).1, (hR a o e).2, _, (hR a o e).1⟩, h⟩
  | _, _, _, i + 1, s, .frz h t, e => aall_at (i := i) t (by simpa using e)
  | _, _, _, i + 1, s, .lent h t, e => aall_at (i := i) t (by simpa using e)
theorem envs_startL {N : List Str} {bs : List Bool} {vs : List V} {ds : List D} (h : AAll K none F H bs vs ds) : Envs K none H F H (L2.start N vs) (envOfL N bs ds) := by
  have hz : (List.zipWith slotOf bs ds).length = vs.length := by rw [List.length_zipWith, h.len.1, h.len.2, Nat.min_self]
  refine ⟨fun i s e => ?_, ?_, fun i j es fs p _ e1 => absurd e1 envOfL_noOwn, fun i j s t a _ e1 _ ha => by cases s <;> first | cases ha | exact absurd e1 envOfL_noPrv⟩
  · unfold envOfL at e
    rcases Nat.lt_or_ge i vs.length with hi | hi
    · rw [List.getElem?_append_left (by rw [hz]; exact hi)] at e
      obtain ⟨v, h1, h2⟩ := aall_at h e
      refine ⟨v, ?_, h2⟩
      unfold L2.start
      rw [List.getElem?_append_left (by simpa using hi), List.getElem?_map, h1]
      rfl
    · rw [List.getElem?_append_right (by rw [hz]; exact hi)] at e
      have := List.eq_of_mem_replicate (List.mem_of_getElem? e)
      cases this
  · unfold L2.start envOfL
    rw [List.length_append, List.length_append, hz, List.length_map, List.length_replicate, List.length_replicate, h.len.1, h.len.2]
end
/-- a def that may raise, whose arguments at the marked places are only lent -/
def spXL (K : PySem.W.Frag) (bs : List Bool) (A : List D → (D → Prop) → (Addr → List (Str × D) → Prop) → Prop) : Sp := fun vs H Q E => vs.length = bs.length ∧ ∃ F ds P PX, Good K none F H ∧ AAll K none F H bs vs ds ∧ A ds P PX ∧ Then K none F H P Q ∧
  ∀ C d fs F' H', Step K none F H F' H' → ExIs K H F' H' d fs → PX C fs → E (.ref C) d H'
def spIXL (K : PySem.W.Frag) (C : Addr) (bs : List Bool) (A : List D → (List (Str × D) → Prop) → (Addr → List (Str × D) → Prop) → Prop) : Sp := fun vs H Q E => vs.length = bs.length + 1 ∧ ∃ x ws F ds P PX, vs = .ref x :: ws ∧ Good K none F H ∧ F x = none ∧ (∃ dx, H x = some (.ins C dx [])) ∧ AAll K none F (fun a => if a = x then none else H a) bs ws ds ∧ A ds P PX ∧
  (∀ F' H' dx gs fs, Same F F' → Good K none F' H' → F' x = none → (∀ a, F a = none → F' a ≠ none → H a = none) → (∀ a o, a ≠ x → H a = some o → H' a = some o) → H' x = some (.ins C dx gs) → gs.map (·.1) = fs.map (·.1) → IsAll K F' (gs.map (·.2)) (fs.map (·.2)) → P fs → Q .non H') ∧
  ∀ C' d fs F' H', Same F F' → Good K none F' H' → F' x = none → (∀ a, F a = none → F' a ≠ none → H a = none) → (∀ a o, a ≠ x → H a = some o → H' a = some o) → ExIs K H F' H' d fs → PX C' fs → E (.ref C') d H'
section
variable {P : Program} {w : World} {K : PySem.W.Frag} {mg : Str → Option Value} {base : Heap}
theorem Fun.okXL {x qual : Str} {st : Stmt} {f : Addr} {fd : FuncData} {N Vn L G ps : List Str} {k : Nat} {bs : List Bool} {A : List D → (D → Prop) → (Addr → List (Str × D) → Prop) → Prop} (Fn : Fun K x qual st f fd) (S : FnScope N ps (defScope st)) (hps : ps.length = bs.length)
    (hv : ∀ x ∈ Vn, VisOk (defScope st) x = true) (hl : ∀ x ∈ L, LocOk (defScope st) x = true) (hg : ∀ x ∈ G, GlOk (defScope st) x = true)
    (hb : ∀ (X : Cx) (ds : List D) (Q : D → Prop) (QX : Addr → List (Str × D) → Prop), DX X P w K mg base N Vn L G (defScope st) k → ds.length = bs.length → A ds Q QX →
      WSs X none (envOfL N bs ds) (defBody st) { nx := fun _ => Q .non, rt := fun d _ => Q d, ex := fun C fs _ => QX C fs }) :
    FnOk P w K mg base (L2.CX P w) (k + 1) f fd ps (spXL K bs A) := by
  refine Fn.okX S (fun vs H Q E h => h.1.trans hps.symm) fun cdv Ar outer s H vs Q E hr h => ⟨_, pss_can, ?_⟩
  obtain ⟨hl', F, ds, Q', QX, g, ha, hA, t, tx⟩ := h
  refine (hb _ ds Q' QX (dx_of (x := x) S hv hl hg hr) ha.len.2 hA).run _ F H F F H _ (fun cls d _ H => E cls d H) ⟨.refl g, envs_startL ha, Same.refl _⟩ ?_
  exact ⟨fun σ env F' H' s' q => t .non .non F' H' s'.step .non q, fun v d σ env F' H' s' hv q => t v d F' H' s'.step hv q, fun _ _ _ _ _ z => z.elim, fun _ _ _ _ _ z => z.elim, takes_of rfl rfl rfl rfl, fun σ env F' H' C d fs s' hx q => tx C d fs F' H' s'.step hx q, fun _ _ _ _ _ _ _ _ _ z => z.elim⟩
theorem Fun.okInitXL {x qual : Str} {st : Stmt} {f C : Addr} {fd : FuncData} {N Vn L G ps : List Str} {k : Nat} {bs : List Bool} {A : List D → (List (Str × D) → Prop) → (Addr → List (Str × D) → Prop) → Prop} (Fn : Fun K x qual st f fd) (S : FnScope N ps (defScope st)) (hps : ps.length = bs.length + 1)
    (hv : ∀ x ∈ Vn, VisOk (defScope st) x = true) (hl : ∀ x ∈ L, LocOk (defScope st) x = true) (hg : ∀ x ∈ G, GlOk (defScope st) x = true)
    (hb : ∀ (X : Cx) (q0 : Addr) (ds : List D) (Q : List (Str × D) → Prop) (QX : Addr → List (Str × D) → Prop), DX X P w K mg base N Vn L G (defScope st) k → ds.length = bs.length → A ds Q QX →
      WSs X none (some (.own q0 (.obj C [])) :: (List.zipWith slotOf bs ds ++ List.replicate (N.length - (bs.length + 1)) none)) (defBody st)
        { nx := fun env => ∃ fs, env[0]? = some (some (.own q0 (.obj C fs))) ∧ Q fs, rt := fun _ _ => False, ex := fun C' fs env => (∃ fs0, env[0]? = some (some (.own q0 (.obj C fs0)))) ∧ QX C' fs }) :
    FnOk P w K mg base (L2.CX P w) (k + 1) f fd ps (spIXL K C bs A) := by
  refine Fn.okX S (fun vs H Q E h => by rw [hps]; exact h.1) fun cdv Ar outer s H vs Q E hr h => ⟨_, pss_can, ?_⟩
  obtain ⟨hlen, b, ws, F, ds, Q', QX, rfl, g, hFb, ⟨db, hH⟩, ha, hA, t, tx⟩ := h
  have hd : ds.length = bs.length := ha.len.2
  let H0 : Hp := fun a => if a = b then none else H a
  have h0b : H0 b = none := if_pos rfl
  have h0 : ∀ a, a ≠ b → H0 a = H a := fun a h => if_neg h
  have e0 : Envs K none H0 F H0 (L2.start N (.ref b :: ws)) (envOfL N (false :: bs) (.ref b :: ds)) := envs_startL (.frz (.ref b) ha)
  have hst : (some (.own b (.obj C [])) :: (List.zipWith slotOf bs ds ++ List.replicate (N.length - (bs.length + 1)) none) : Ev) = (envOfL N (false :: bs) (.ref b :: ds)).set 0 (some (.own b (.obj C []))) := by
    unfold envOfL
    simp [hd]
  have start : Sta K none F H0 F F H (L2.start N (.ref b :: ws)) (some (.own b (.obj C [])) :: (List.zipWith slotOf bs ds ++ List.replicate (N.length - (bs.length + 1)) none)) := by
    rw [hst]
    refine ⟨⟨Same.refl _, g, fun a h1 h2 => absurd h1 h2, fun a o _ h => ?_⟩, ⟨fun j s e => ?_, by rw [List.length_set]; exact e0.len, fun j k ds' es p hjk e1 e2 => ?_, e0.apt.put (fun j t a _ e ha => by cases t <;> first | cases ha | exact absurd e envOfL_noPrv) fun j t a _ e ha => nomatch ha⟩, Same.refl _⟩
    · by_cases hab : a = b
      · subst hab; rw [h0b] at h; cases h
      · rw [h0 a hab] at h; exact h
    · rcases set_at e with ⟨rfl, hl, e⟩ | ⟨hij, e⟩
      · cases e
        exact ⟨.ref b, rfl, _, rfl, (fun z => nomatch z), hFb, h0b, hH, db, [], rfl, rfl, .nil⟩
      · obtain ⟨v, h1, h2⟩ := e0.at_ j _ e
        refine ⟨v, h1, ?_⟩
        cases s with
        | frz d => exact h2
        | own p c => exact absurd e envOfL_noOwn
        | prv d => exact absurd e envOfL_noPrv
        | lent d =>
          rcases h2 with h2 | ⟨R, hR, h2⟩
          · exact .inl h2
          · refine .inr ⟨R, fun a o e => ?_, h2⟩
            obtain ⟨q1, q2, q3⟩ := hR a o e
            exact ⟨(h0 a fun z => by rw [z, h0b] at q1; cases q1).symm.trans q1, q2, q3⟩
    · rcases set_at e1 with ⟨rfl, hl, e⟩ | ⟨hij, e⟩
      · rcases set_at e2 with ⟨z, _, _⟩ | ⟨_, e⟩
        · exact hjk z
        · exact envOfL_noOwn e
      · exact envOfL_noOwn e
  have gone : ∀ {Fl F' H' : Hp} {σ : L2.St} {env : Ev} {fs : List (Str × D)}, Sta K none F H0 Fl F' H' σ env → env[0]? = some (some (.own b (.obj C fs))) → F' b = none ∧ (∀ a, F a = none → F' a ≠ none → H a = none) ∧ ∀ a o, a ≠ b → H a = some o → H' a = some o := fun {Fl F' H' σ env fs} s' he => by
    obtain ⟨v0, hσ0, ho, _, _, hFp, _⟩ := s'.env.at_ 0 _ he
    refine ⟨hFp, fun a h1 h2 => ?_, fun a o hab ho => s'.step.keep a o (fun z => nomatch z) (by rw [h0 a hab]; exact ho)⟩
    by_cases hab : a = b
    · subst hab; exact absurd hFp h2
    · rw [← h0 a hab]; exact s'.step.new a h1 h2
  refine (hb _ b ds Q' QX (dx_of (x := x) S hv hl hg hr) hd hA).run _ F H0 F F H _ (fun cls d _ H => E cls d H) start ?_
  refine ⟨fun σ env F' H' s' q => ?_, fun _ _ _ _ _ _ _ _ z => z.elim, fun _ _ _ _ _ z => z.elim, fun _ _ _ _ _ z => z.elim, takes_of rfl rfl rfl rfl, fun σ env F' H' C' d fs s' hx q => ?_, fun _ _ _ _ _ _ _ _ _ z => z.elim⟩
  · obtain ⟨fs, he, q⟩ := q
    obtain ⟨h1, h2, h3⟩ := gone s' he
    obtain ⟨v0, hσ0, ho, _, _, _, _, hHp, da, gs, rfl, hn, hap⟩ := s'.env.at_ 0 _ he
    exact t F' H' da gs fs s'.step.fs s'.step.good h1 h2 h3 hHp hn hap q
  · obtain ⟨⟨fs0, he⟩, q⟩ := q
    obtain ⟨h1, h2, h3⟩ := gone s' he
    obtain ⟨v0, hσ0, ho, _, _, _, _, hHp, da, gs0, rfl, _⟩ := s'.env.at_ 0 _ he
    refine tx C' d fs F' H' s'.step.fs s'.step.good h1 h2 h3 (hx.imp fun a z ⟨gs, hg⟩ => ?_) q
    rw [← h0 a fun e => by rw [e, hHp] at hg; cases hg]
    exact z
end
section
variable {X : Cx} {P : Program} {w : World} {K : PySem.W.Frag} {mg : Str → Option Value} {base : Heap} {N Vn L G B : List Str} {S : Scope} {k k2 n : Nat} {x y : Str} {i j j2 : Nat} {bs : List Bool}
variable {m : Option Mem} {env : Ev} {a b c e iter elt o tg : Expr} {es : List Expr} {Q : D → Prop} {pos p2 p3 p4 pr : Pos} {R : DEnds} {rest body els : List Stmt} {ps : List Str} {C : Addr}
theorem dal_own (dx : DX X P w K mg base N Vn L G S k) (h1 : At N i x) (h2 : At Vn j x) {p : Addr} {ds : List D} {P : List D → Prop} (he : env[i]? = some (some (.own p (.lst ds)))) (hs : starEach (.Name x p2 :: es) X.env = (false, eval (.Name x p2) X.env) :: starEach es X.env) (h : WAL X m env bs es fun es => P (.lst ds :: es)) : WAL X m env (true :: bs) (.Name x p2 :: es) P :=
  let ⟨v, d1, d2⟩ := dx.v h2; wal_own i (dx.n h1) v d1 d2 he hs h
theorem dal_lent (dx : DX X P w K mg base N Vn L G S k) (h1 : At N i x) (h2 : At Vn j x) {d : D} {P : List D → Prop} (he : env[i]? = some (some (.lent d))) (hs : starEach (.Name x p2 :: es) X.env = (false, eval (.Name x p2) X.env) :: starEach es X.env) (h : WAL X m env bs es fun es => P (d :: es)) : WAL X m env (true :: bs) (.Name x p2 :: es) P :=
  let ⟨v, d1, d2⟩ := dx.v h2; wal_lent i (dx.n h1) v d1 d2 he hs h
theorem aall_step {K : PySem.W.Frag} {m : Option Mem} {F H F' H' : Hp} (t : Step K m F H F' H') : ∀ {bs : List Bool} {vs : List V} {ds : List D}, AAll K m F H bs vs ds → AAll K m F' H' bs vs ds
  | _, _, _, .nil => .nil
  | _, _, _, .frz h r => .frz (h.mono t.fs) (aall_step t r)
  | _, _, _, .lent h r => .lent (h.step t) (aall_step t r)
theorem aall_heap {K : PySem.W.Frag} {m : Option Mem} {F H H' : Hp} (t : ∀ a o, H a = some o → H' a = some o) : ∀ {bs : List Bool} {vs : List V} {ds : List D}, AAll K m F H bs vs ds → AAll K m F H' bs vs ds
  | _, _, _, .nil => .nil
  | _, _, _, .frz h r => .frz h (aall_heap t r)
  | _, _, _, .lent h r => .lent (h.imp id fun ⟨R, hR, h⟩ => ⟨R, fun a o e => ⟨t a o (hR a o e).1, (hR a o e).2⟩, h⟩) (aall_heap t r)
theorem call_XL {A : List D → (D → Prop) → (Addr → List (Str × D) → Prop) → Prop} {Pd : D → Prop} {σ : L2.St} {F0 H0 Fl F H F1 H1 : Hp} {De : Ends} {W : WX} {vs : List V} {ds : List D} {kk : VK} (s : Sta X.K m F0 H0 Fl F H σ env) (o : EndsOk X m F0 H0 Fl R De W) (s1 : Step X.K m F H F1 H1) (hvs : AAll X.K m F1 H1 bs vs ds)
    (hq : A ds Pd fun C fs => R.ex C fs env) (t : Then X.K m F1 H1 Pd kk) : spXL X.K bs A vs H1 kk (L2.WE W σ) := by
  refine ⟨hvs.len.1, F1, ds, Pd, _, s1.good.any, hvs.any, hq, fun v d F2 H2 s2 hv hP => t v d F2 H2 (s2.any s1.good) hv hP, fun C d fs F2 H2 s2 hx hP => ?_⟩
  exact o.ex σ env F2 H2 C d fs ((s.after s1).after (s2.any s1.good)) (hx.back (s.step.trans s1)) hP
theorem dl_setXL {A : List D → (D → Prop) → (Addr → List (Str × D) → Prop) → Prop} (dx : DX X P w K mg base N Vn L G S k) (F : FnAt P w K mg base x k2 ps (spXL K bs A)) (h3 : At G j x) (hk : k2 ≤ k) (he : starEach (e :: es) X.env = (false, eval e X.env) :: starEach es X.env) (hpl : (backTo p3 (starEach es X.env)).any (·.1) = false)
    (h1 : At N i y) (h2 : At L j2 y) (hs : swapsWith (.Call (.Name x p2) (e :: es) [] p3) (some (.Name y p4)) pos.line X.env = pure false) (hw : WAL X m env bs (e :: es) fun ds => A ds (fun d => R.nx (env.set i (some (.frz d)))) fun C fs => R.ex C fs env) :
    WS X m env (.Assign [.Name y p4] (.Call (.Name x p2) (e :: es) [] p3) pos) R := by
  obtain ⟨f, fd, Fn, hm, hkp, hb⟩ := F.ex
  obtain ⟨g1, g2, g3⟩ := dx.g h3
  obtain ⟨l1, l2⟩ := dx.l h2
  have hi := dx.n h1
  obtain rfl := dx.prog
  obtain rfl := dx.w_
  obtain rfl := dx.K_
  obtain rfl := dx.mg_
  obtain rfl := dx.base_
  refine ⟨fun σ F0 H0 Fl F' H De W s o => tsc (ps_set dx.ndX hi l1 (pe_callS Fn (dx.room.mono hk) g1 hm hkp hb (fun σ => passAt o.tk σ) pa_can g2 he hpl) hs l2) ?_⟩
  refine hw.run σ H0 F' H _ s.good s.env fun vs ds F1 H1 s1 hvs q => ?_
  exact call_XL (R := R) s o s1 hvs q fun v d F2 H2 s2 hv hP => o.nx _ _ F2 H2 ⟨(s.step.trans s1).trans s2, ((s.env.step s1).step s2).frz hv, (s.fl.trans s1.fs).trans s2.fs⟩ hP
/-- a statement f(e, ..) of a def over data, where arguments are lent: what it gives is dropped -/
theorem dl_exprF {A : List D → (D → Prop) → (Addr → List (Str × D) → Prop) → Prop} (dx : DX X P w K mg base N Vn L G S k) (F : FnAt P w K mg base x k2 ps (spX K n A)) (h3 : At G j x) (hk : k2 ≤ k) (he : starEach (e :: es) X.env = (false, eval e X.env) :: starEach es X.env) (hpl : (backTo p3 (starEach es X.env)).any (·.1) = false)
    (hs : swapsWith (.Call (.Name x p2) (e :: es) [] p3) none pos.line X.env = pure false) (hw : WAL X m env bs (e :: es) fun ds => ds.length = n ∧ A ds (fun _ => R.nx env) fun C fs => fs = [] ∧ R.ex C [] env) : WS X m env (.Expr (.Call (.Name x p2) (e :: es) [] p3) pos) R := by
  obtain ⟨f, fd, Fn, hm, hkp, hb⟩ := F.ex
  obtain ⟨g1, g2, g3⟩ := dx.g h3
  obtain rfl := dx.prog
  obtain rfl := dx.w_
  obtain rfl := dx.K_
  obtain rfl := dx.mg_
  obtain rfl := dx.base_
  refine ⟨fun σ F0 H0 Fl F' H De W s o => tsc (ps_expr (pe_callS Fn (dx.room.mono hk) g1 hm hkp hb (fun σ => passAt o.tk σ) pa_can g2 he hpl) hs) ?_⟩
  refine hw.run σ H0 F' H _ s.good s.env fun vs ds F1 H1 s1 hvs q => ?_
  obtain ⟨F2, s2, g2', ha⟩ := hvs.any.frozen s1.good.any
  refine ⟨hvs.len.1.trans (hvs.len.2.symm.trans q.1), F2, ds, _, _, g2', ha, q.2, fun v d F3 H3 s3 hv hP => ?_, fun C d fs F3 H3 s3 hx hP => ?_⟩
  · exact o.nx σ env F1 H3 ((s.after s1).after (s3.back s1.good)) hP
  · obtain ⟨rfl, hP⟩ := hP
    refine o.ex σ env F1 H3 C d [] ((s.after s1).after (s3.back s1.good)) ?_ hP
    cases d with
    | none => exact rfl
    | some a => exact absurd rfl hx.1
theorem make_XL {A : List D → (List (Str × D) → Prop) → (Addr → List (Str × D) → Prop) → Prop} {Pd : D → Prop} {σ : L2.St} {F0 H0 Fl F H F1 H1 : Hp} {De : Ends} {W : WX} {vs : List V} {ds : List D} {kk : VK} (s : Sta X.K m F0 H0 Fl F H σ env) (o : EndsOk X m F0 H0 Fl R De W) (s1 : Step X.K m F H F1 H1) (hvs : AAll X.K m F1 H1 bs vs ds)
    (hq : A ds (fun fs => Pd (.ins C fs)) fun C fs => R.ex C fs env) (t : Then X.K m F1 H1 Pd kk) {y dy : Addr} (hy : H1 y = none) (hdy : H1 dy = none) (ne : dy ≠ y) :
    spIXL X.K C bs A (.ref y :: vs) (upd (upd H1 dy (.own y)) y (.ins C dy [])) (fun v H2 => v = .non ∧ kk (.ref y) H2) (L2.WE W σ) := by
  have hy2 : upd H1 dy (.own y) y = none := by rw [upd_ne ne.symm]; exact hy
  have t1 := s1.good.fresh (o := .own y) hdy
  have t2 := t1.good.fresh (o := .ins C dy []) hy2
  have back : ∀ a, upd (upd H1 dy (.own y)) y (.ins C dy []) a = none → H1 a = none := fun a z => by
    by_cases ha : a = y
    · subst ha; exact hy
    · rw [upd_ne ha] at z
      by_cases hb : a = dy
      · subst hb; exact hdy
      · rw [upd_ne hb] at z; exact z
  have fwd : ∀ a o, H1 a = some o → upd (upd H1 dy (.own y)) y (.ins C dy []) a = some o := fun a o z => by
    rw [upd_ne (ne_of_none z hy), upd_ne (ne_of_none z hdy)]; exact z
  have stp : ∀ (F' H' : Hp), Same F1 F' → Good X.K none F' H' → (∀ a, F1 a = none → F' a ≠ none → upd (upd H1 dy (.own y)) y (.ins C dy []) a = none) → (∀ a o, a ≠ y → upd (upd H1 dy (.own y)) y (.ins C dy []) a = some o → H' a = some o) → Step X.K m F1 H1 F' H' := fun F' H' sm g' nw kp => by
    have kp2 : ∀ a o, H1 a = some o → H' a = some o := fun a o z => kp a o (ne_of_none z hy) (fwd a o z)
    refine ⟨sm, ⟨g'.sub, fun b hb => ?_⟩, fun a h1 h2 => back a (nw a h1 h2), fun a o _ z => kp2 a o z⟩
    obtain ⟨hF1, hB⟩ := s1.good.bag b hb
    obtain ⟨⟨u, hu⟩, u2, hu2⟩ := hB.some
    refine ⟨⟨?_, ?_⟩, hB.mono ((kp2 b.b u hu).trans hu.symm) ((kp2 b.l u2 hu2).trans hu2.symm)⟩
    · cases e : F' b.b with
      | none => rfl
      | some o => exact absurd (back b.b (nw b.b hF1.1 (by rw [e]; exact fun z => nomatch z))) (by rw [hu]; exact fun z => nomatch z)
    · cases e : F' b.l with
      | none => rfl
      | some o => exact absurd (back b.l (nw b.l hF1.2 (by rw [e]; exact fun z => nomatch z))) (by rw [hu2]; exact fun z => nomatch z)
  have hv2 : AAll X.K m F1 (fun a => if a = y then none else upd (upd H1 dy (.own y)) y (.ins C dy []) a) bs vs ds := aall_heap (fun a o z => by
    show (if a = y then none else upd (upd H1 dy (.own y)) y (.ins C dy []) a) = some o
    rw [if_neg (ne_of_none z hy)]
    exact fwd a o z) hvs
  refine ⟨by show vs.length + 1 = bs.length + 1; rw [hvs.len.1], y, vs, F1, ds, _, _, rfl, t2.good.any, s1.good.noF hy, ⟨dy, upd_same⟩, hv2.any, hq, fun F' H' dx' gs fs sm g' hF' nw kp hH' hn ha hP => ⟨rfl, ?_⟩, fun C' d fs F' H' sm g' hF' nw kp hx hP => ?_⟩
  · have st := stp F' H' sm g' nw kp
    have hm' : ¬ Touch m y := s1.good.notm hy
    refine t _ _ (upd F' y (.ins C dx' gs)) H' ⟨sm.trans (same_upd hF'), st.good.freeze hF' hm' hH', fun a h1 h2 => ?_, st.keep⟩ (.ins upd_same hn (ha.mono (same_upd hF'))) hP
    by_cases hay : a = y
    · subst hay; exact hy
    · rw [upd_ne hay] at h2; exact st.new a h1 h2
  · exact o.ex σ env F' H' C' d fs ((s.after s1).after (stp F' H' sm g' nw kp)) (hx.imp fun a z _ => (s.step.trans s1).none0 (back a z)) hP
theorem dl_retMakeXL {A : List D → (List (Str × D) → Prop) → (Addr → List (Str × D) → Prop) → Prop} (dx : DX X P w K mg base N Vn L G S k) (F : MkAt P w K mg base x C k2 ps (spIXL K C bs A)) (h3 : At G j x) (hk : k2 + 1 ≤ k) (he : starEach (e :: es) X.env = (false, eval e X.env) :: starEach es X.env) (hpl : (backTo p3 (starEach es X.env)).any (·.1) = false)
    (hw : WAL X m env bs (e :: es) fun ds => A ds (fun fs => R.rt (.ins C fs) env) fun C fs => R.ex C fs env) : WS X m env (.Return (some (.Call (.Name x p2) (e :: es) [] p3)) pos) R := by
  obtain ⟨f, fd, M, Fn, hb, hm⟩ := F.ex
  obtain ⟨g1, g2, g3⟩ := dx.g h3
  obtain rfl := dx.prog
  obtain rfl := dx.w_
  obtain rfl := dx.K_
  obtain rfl := dx.mg_
  obtain rfl := dx.base_
  refine ⟨fun σ F0 H0 Fl F' H De W s o => tsc (ps_ret (pe_makeS M Fn (dx.room.mono hk) g1 hm hb (fun σ => passAt o.tk σ) pa_can g2 he hpl)) ?_⟩
  refine hw.run σ H0 F' H _ s.good s.env fun vs ds F1 H1 s1 hvs q => ?_
  intro yy dy hy hdy ne
  exact make_XL (R := R) (Pd := fun d => R.rt d env) s o s1 hvs q (fun v d F2 H2 s2 hv hP => o.rt v d σ env F2 H2 ((s.after s1).after s2) hv hP) hy hdy ne
theorem dl_setMakeXL {A : List D → (List (Str × D) → Prop) → (Addr → List (Str × D) → Prop) → Prop} (dx : DX X P w K mg base N Vn L G S k) (F : MkAt P w K mg base x C k2 ps (spIXL K C bs A)) (h3 : At G j x) (hk : k2 + 1 ≤ k) (he : starEach (e :: es) X.env = (false, eval e X.env) :: starEach es X.env) (hpl : (backTo p3 (starEach es X.env)).any (·.1) = false)
    (h1 : At N i y) (h2 : At L j2 y) (hs : swapsWith (.Call (.Name x p2) (e :: es) [] p3) (some (.Name y p4)) pos.line X.env = pure false)
    (hw : WAL X m env bs (e :: es) fun ds => A ds (fun fs => R.nx (env.set i (some (.frz (.ins C fs))))) fun C fs => R.ex C fs env) : WS X m env (.Assign [.Name y p4] (.Call (.Name x p2) (e :: es) [] p3) pos) R := by
  obtain ⟨f, fd, M, Fn, hb, hm⟩ := F.ex
  obtain ⟨g1, g2, g3⟩ := dx.g h3
  obtain ⟨l1, l2⟩ := dx.l h2
  have hi := dx.n h1
  obtain rfl := dx.prog
  obtain rfl := dx.w_
  obtain rfl := dx.K_
  obtain rfl := dx.mg_
  obtain rfl := dx.base_
  refine ⟨fun σ F0 H0 Fl F' H De W s o => tsc (ps_set dx.ndX hi l1 (pe_makeS M Fn (dx.room.mono hk) g1 hm hb (fun σ => passAt o.tk σ) pa_can g2 he hpl) hs l2) ?_⟩
  refine hw.run σ H0 F' H _ s.good s.env fun vs ds F1 H1 s1 hvs q => ?_
  intro yy dy hy hdy ne
  exact make_XL (R := R) (Pd := fun d => R.nx (env.set i (some (.frz d)))) s o s1 hvs q (fun v d F2 H2 s2 hv hP => o.nx _ _ F2 H2 ⟨(s.step.trans s1).trans s2, ((s.env.step s1).step s2).frz hv, (s.fl.trans s1.fs).trans s2.fs⟩ hP) hy hdy ne
end
end DL
set_option Elab.async false
set_option linter.all false
set_option maxRecDepth 100000
set_option autoImplicit false
/-! DL, part 17: name = [.. for ..], a list that may be changed. -/
namespace DL
open PySem L2
section
variable {X : Cx} {m : Option Mem} {env : Ev} {a b c e elt iter tg : Expr} {es : List Expr} {pos p2 p3 pr py spos : Pos} {scope : Scope} {x y : Str} {t : Nat} {R : DEnds}
theorem thO {F0 H0 Fl F H : Hp} {σ : L2.St} {De : Ends} {W : WX} {i : Nat} (s : Sta X.K m F0 H0 Fl F H σ env) (o : EndsOk X m F0 H0 Fl R De W) : ThenL X.K m F H (fun es => ∀ p, R.nx (env.set i (some (.own p (.lst es))))) (fun x H1 => De.nx (σ.set i (some x)) H1) := fun p xs ds F' H' hp hF s1 hH ha q => by
  have h0 : H0 p = none := by
    cases e : H0 p with
    | none => rfl
    | some u => rw [s.step.keep p u (s.good.notm hp) e] at hp; cases hp
  exact o.nx _ _ F' H' ⟨s.step.trans s1, s.env.ownL s.good s1 hp h0 hF hH (.ofL ha), s.fl.trans s1.fs⟩ (q p)
theorem ws_setCompO (i : Nat) (t : Nat) (own : List (Str × Nat)) (hown : own.map (·.2) = [t]) (hc : X.calm = true) (hN : X.N.Nodup) (hy : X.N[i]? = some y) (hyl : X.env.scope.names.lookup y = some .local) (hsw : swapsWith (.ListComp elt [⟨tg, iter, [], 0⟩] scope pos) (some (.Name y py)) spos.line X.env = pure true)
    (ok : BlkOk X.N X.env.scope scope own) (hg : ∀ (s : Shared) (H : Hp) (C : Addr) (cl : List (Str × Addr)) (fp : List Addr), PG (X.blk s H scope (compEnvC scope cl C X.env) fp) tg (gName t))
    (hs : ∀ x, foldedSetIterable iter X.env x = pure x)
    (w : WE X m env iter fun x => asLst x fun ds => ds.length ≤ 1000000 ∧ ∃ Pi : Nat → D → Prop, (∀ (i : Nat) (d : D), ds[i]? = some d → WB X m ((env.set t none).set t (some (.frz d))) scope elt (Pi i)) ∧ ∀ es : List D, es.length = ds.length → (∀ (i : Nat) (e : D), es[i]? = some e → Pi i e) → ∀ p, R.nx (env.set i (some (.own p (.lst es))))) :
    WS X m env (.Assign [.Name y py] (.ListComp elt [⟨tg, iter, [], 0⟩] scope pos) spos) R := by
  refine ⟨fun σ F0 H0 Fl F H De W s o => tsc (ps_setLc (te := TBc X scope elt) hc hN hy hyl hsw (pi_list pe_can) ok hg (fun _ _ _ _ _ => pts_nil) (fun s H C cl fp => ⟨fun pins s2 σ2 H2 Q I h => h s H C cl fp pins s2 I⟩) hs) ?_⟩
  have th := thO (i := i) s o
  have g := s.good
  have ev := s.env
  refine w.run σ H0 F H _ g ev fun v d F1 H1 s1 hv q => ?_
  obtain ⟨p, xs, ds, rfl, rfl, h1, h2, hz, Pi, hP, hQ⟩ := hv.asLst q
  have h1' := s1.good.sub _ _ h1
  refine ⟨p, rfl, ⟨xs, .of h1'⟩, fun L hL => ?_⟩
  rw [hown]
  have hpL : p ≠ L := ne_of_none h1' hL
  refine lc_list (K := X.K) (a := p) (xs := xs) (CompI X.K m F1 H1 L Pi) (comp_start (σ := σ) s1.good hL) (fun i H2 hi I => ?_) (fun i v H2 hi I => ?_) fun H2 I => ?_
  · obtain ⟨F', acc, es, s2, _⟩ := I
    exact .of (s2.good.sub _ _ (s2.fs _ _ h1))
  · obtain ⟨d, hd, iv⟩ := h2.getV hi
    have hlt : i < ds.length := (List.getElem?_eq_some_iff.mp hd).1
    exact comp_turn (ev.step s1) hL (s1.good.notm hL) (by omega) I (fun F' sm => iv.mono sm) (hP i d hd)
  · exact comp_end g s1 hL (by rw [← h2.length]; exact I) th hQ
theorem ws_setCompRO (i : Nat) (t : Nat) (own : List (Str × Nat)) (hown : own.map (·.2) = [t]) (hc : X.calm = true) (hN : X.N.Nodup) (hy : X.N[i]? = some y) (hyl : X.env.scope.names.lookup y = some .local) (hsw : swapsWith (.ListComp elt [⟨tg, .Call (.Name "range" p2) [a] [] pr, [], 0⟩] scope pos) (some (.Name y py)) spos.line X.env = pure true)
    (ok : BlkOk X.N X.env.scope scope own) (hg : ∀ (s : Shared) (H : Hp) (C : Addr) (cl : List (Str × Addr)) (fp : List Addr), PG (X.blk s H scope (compEnvC scope cl C X.env) fp) tg (gName t))
    (hrg : Gl X "range") (hrm : X.mg "range" = none) (hst : starEach [a] X.env = [(false, eval a X.env)])
    (hs : ∀ x, foldedSetIterable (.Call (.Name "range" p2) [a] [] pr) X.env x = pure x)
    (w : WE X m env a fun x => asInt x fun n => (-1000000 ≤ n ∧ n ≤ 1000000) ∧ ∃ Pi : Nat → D → Prop, (∀ (i : Nat), (i : Int) < n → WB X m ((env.set t none).set t (some (.frz (.int i)))) scope elt (Pi i)) ∧ ∀ es : List D, es.length = n.toNat → (∀ (i : Nat) (e : D), es[i]? = some e → Pi i e) → ∀ p, R.nx (env.set i (some (.own p (.lst es))))) :
    WS X m env (.Assign [.Name y py] (.ListComp elt [⟨tg, .Call (.Name "range" p2) [a] [] pr, [], 0⟩] scope pos) spos) R := by
  refine ⟨fun σ F0 H0 Fl F H De W s o => tsc (ps_setLc (te := TBc X scope elt) hc hN hy hyl hsw (pi_range1 hrg hrm (pa_cons pe_can pa_nil hst) hst) ok hg (fun _ _ _ _ _ => pts_nil) (fun s H C cl fp => ⟨fun pins s2 σ2 H2 Q I h => h s H C cl fp pins s2 I⟩) hs) ?_⟩
  have th := thO (i := i) s o
  have g := s.good
  have ev := s.env
  refine w.run σ H0 F H _ g ev fun v d F1 H1 s1 hv q => ?_
  obtain ⟨n, rfl, rfl, hz, Pi, hP, hQ⟩ := hv.asInt q
  refine ⟨n, rfl, by omega, by omega, fun L hL => ?_⟩
  rw [hown]
  refine lc_range (CompI X.K m F1 H1 L Pi) (comp_start (σ := σ) s1.good hL) (fun i H2 hi I => ?_) fun H2 I => ?_
  · have hlt : (i : Int) < n := by omega
    have e0 : ((0 : Int) + (i : Int)) = (i : Int) := by omega
    rw [e0]
    exact comp_turn (ev.step s1) hL (s1.good.notm hL) (by omega) I (fun F' sm => .int _) (hP i hlt)
  · exact comp_end g s1 hL I th hQ
end
section
variable {X : Cx} {P : Program} {w : World} {K : PySem.W.Frag} {mg : Str → Option Value} {base : Heap} {N Vn L G B : List Str} {S : Scope} {k k2 n : Nat} {x y : Str} {i j j2 j3 : Nat}
variable {m : Option Mem} {env : Ev} {a b c e iter elt o tg : Expr} {es : List Expr} {Q : D → Prop} {pos p2 p3 p4 pr py spos : Pos} {R : DEnds} {rest body els : List Stmt} {ps : List Str}
theorem dl_setCompO (t : Nat) (own : List (Str × Nat)) (Vc Gc : List Str) {scope : Scope} (dx : DX X P w K mg base N Vn L G S k) (h5 : At N i y) (hS : S.kind = .function) (hy : S.names.lookup y = some .local) (hln : (py.line == pos.line) = true) (hno : (scope.names.any fun (n, k) => n == y && (k == .local || k == .cell)) = false)
    (ok : blkC N S scope own = true) (hown : own.map (·.2) = [t]) (h1 : At N t x) (hx : LocOk scope x = true) (hv : ∀ x ∈ Vc, VisOk (relS scope S) x = true) (hg : ∀ x ∈ Gc, GlOk (relS scope S) x = true)
    (hs : ∀ y, foldedSetIterable iter X.env y = pure y)
    (hw : WE X m env iter fun x => asLst x fun ds => ds.length ≤ 1000000 ∧ ∃ Pi : Nat → D → Prop, (∀ (i : Nat) (d : D), ds[i]? = some d → ∀ X', DX X' P w K mg base N Vc [] Gc (relS scope S) k → X'.K = X.K → WE X' m ((env.set t none).set t (some (.frz d))) elt (Pi i)) ∧ ∀ es : List D, es.length = ds.length → (∀ (i : Nat) (e : D), es[i]? = some e → Pi i e) → ∀ p, R.nx (env.set i (some (.own p (.lst es))))) :
    WS X m env (.Assign [.Name y py] (.ListComp elt [⟨.Name x p2, iter, [], 0⟩] scope pos) spos) R := by
  refine ws_setCompO i t own hown dx.calm dx.ndX (dx.n h5) (by rw [dx.S_]; exact hy) (sw_true (by rw [dx.S_]; exact hS) (by rw [dx.S_]; exact hy) hln hno) (by rw [dx.N_, dx.S_]; exact blkOk_by ok) (blk_pg dx h1 hx) hs (hw.mono fun d q => ?_)
  cases d <;> first | exact q.elim | skip
  obtain ⟨hz, Pi, h2, h3⟩ := q
  exact ⟨hz, Pi, fun i d hd => ⟨fun s H C cl fp => h2 i d hd _ (blk_dx dx hv hg s H C cl fp) rfl⟩, h3⟩
theorem dl_setCompRO (t : Nat) (own : List (Str × Nat)) (Vc Gc : List Str) {scope : Scope} (dx : DX X P w K mg base N Vn L G S k) (bn : NoMg mg B) (h5 : At N i y) (hS : S.kind = .function) (hy : S.names.lookup y = some .local) (hln : (py.line == pos.line) = true) (hno : (scope.names.any fun (n, k) => n == y && (k == .local || k == .cell)) = false)
    (ok : blkC N S scope own = true) (hown : own.map (·.2) = [t]) (h1 : At N t x) (hx : LocOk scope x = true) (hv : ∀ x ∈ Vc, VisOk (relS scope S) x = true) (hg : ∀ x ∈ Gc, GlOk (relS scope S) x = true)
    (h3 : At G j "range") (h4 : At B j2 "range") (hst : starEach [a] X.env = [(false, eval a X.env)]) (hs : ∀ y, foldedSetIterable (.Call (.Name "range" p3) [a] [] pr) X.env y = pure y)
    (hw : WE X m env a fun x => asInt x fun n => (-1000000 ≤ n ∧ n ≤ 1000000) ∧ ∃ Pi : Nat → D → Prop, (∀ (i : Nat), (i : Int) < n → ∀ X', DX X' P w K mg base N Vc [] Gc (relS scope S) k → X'.K = X.K → WE X' m ((env.set t none).set t (some (.frz (.int i)))) elt (Pi i)) ∧ ∀ es : List D, es.length = n.toNat → (∀ (i : Nat) (e : D), es[i]? = some e → Pi i e) → ∀ p, R.nx (env.set i (some (.own p (.lst es))))) :
    WS X m env (.Assign [.Name y py] (.ListComp elt [⟨.Name x p2, .Call (.Name "range" p3) [a] [] pr, [], 0⟩] scope pos) spos) R := by
  refine ws_setCompRO i t own hown dx.calm dx.ndX (dx.n h5) (by rw [dx.S_]; exact hy) (sw_true (by rw [dx.S_]; exact hS) (by rw [dx.S_]; exact hy) hln hno) (by rw [dx.N_, dx.S_]; exact blkOk_by ok) (blk_pg dx h1 hx) (dx.g h3).1 (dx.b bn h4) hst hs (hw.mono fun d q => ?_)
  cases d <;> first | exact q.elim | skip
  obtain ⟨hz, Pi, h2, h3⟩ := q
  exact ⟨hz, Pi, fun i hd => ⟨fun s H C cl fp => h2 i hd _ (blk_dx dx hv hg s H C cl fp) rfl⟩, h3⟩
end
end DL
set_option Elab.async false
set_option linter.all false
set_option maxRecDepth 100000
set_option autoImplicit false
/-! DL, part 18: errors with parts. -/
namespace DL
open PySem L2
/-! ### B.__init__(self, ..), B an own class over ValueError without an __init__ -/
structure BaseOk (K : PySem.W.Frag) (B : Addr) : Prop where
  ga : PySem.W.specialIn K (.ref B) "__getattribute__" = some (some (.builtin "type.__getattribute__"))
  ty : PySem.W.typeIn K (.ref B) = some (.type "type")
  rd : PySem.W.readsIn K B (.type "type") = true
  ini : PySem.W.findCls K (.ref B) (.type "type") "__init__" = some (.val (.builtin "ValueError.__init__"))
section
variable {X : Cx} {e : Expr} {es : List Expr} {ta : TA} {x : Str} {B : Addr} {p1 p2 pos : Pos}
theorem pe_base {pl : Sem Bool} (hg : Gl X x) (hm : X.mg x = some (.ref B)) (ok : BaseOk X.K B) (ha : PA X (e :: es) ta) (hdb : (x == ("__debug__" : Str)) = false)
    (hc : eval (.Call (.Attribute (.Name x p1) "__init__" p2) (e :: es) [] pos) X.env = (do
      let ov ← eval (.Name x p1) X.env
      standAt p2.atName
      let (f, first) ← holding [ov] (getMethod ov "__init__" pl)
      callWith pos f first (backTo pos (starEach (e :: es) X.env)) (backToKw pos (keywordEach [] X.env))))
    (he : starEach (e :: es) X.env = (false, eval e X.env) :: starEach es X.env) (hpl : (backTo pos (starEach es X.env)).any (·.1) = false) :
    PE X (.Call (.Attribute (.Name x p1) "__init__" p2) (e :: es) [] pos) (tVeI X.K ta) := by
  refine ⟨fun pins s σ H Q I0 q0 => PySem.W.methodCall_KW (ld_glob I0 hg hm ?_ hdb) hc⟩
  obtain ⟨m0, fr0⟩ := I0.fr
  refine PySem.W.method_of_cls fr0 I0.ok.mod.kin ok.ga (PySem.W.cls_val fr0 I0.ok.mod.kin ok.ty ok.rd ok.ini rfl ?_)
  show wpAny _ _ (callWith pos (.builtin "ValueError.__init__") [] (backTo pos (starEach (e :: es) X.env)) []) _ _ _
  refine PyProof.Rows.callWith_method1 (thn (ha.run pos pins _ σ H _ (I0.tok _) q0) ?_) he hpl
  rintro us s1 ⟨vs, H1, I1, r1, a, C, ws, rfl, hlw, T, ea, q⟩
  cases r1 with
  | @cons _ u1 _ ur r0 rr =>
    cases r0
    refine oinit_ok T I1 ea ?_ fun s2 J => ⟨.non, H1, J, rfl, q⟩
    have := Paired.length rr
    rw [sizeLine_eq]; omega
end
/-! ### the __init__ of an error with one part -/
def spE (K : PySem.W.Frag) (C : Addr) (fld : Str) : Sp := fun vs H Q _ => ∃ a y, vs = [.ref a, y] ∧ H a = some (exo a C none) ∧ ∀ d, H d = none → d ≠ a → Q .non (upd (upd H d (exd d [(fld, y)])) a (exo a C (some d)))
section
variable {P : Program} {w : World} {K : PySem.W.Frag} {mg : Str → Option Value} {base : Heap}
theorem Fun.okErr {qual par fld m : Str} {st : Stmt} {f C B : Addr} {fd : FuncData} {p1 p2 p3 p4 p5 p6 p7 p8 p9 p10 : Pos} {j : Nat} (Fn : Fun K "__init__" qual st f fd) (S : FnScope ["self", par] ["self", par] (defScope st))
    (hbody : defBody st = [.Expr (.Call (.Attribute (.Name "ClaimError" p1) "__init__" p2) [.Name "self" p3, .Constant (.str m) j p4] [] p5) p6, .Assign [.Attribute (.Name "self" p7) fld p8] (.Name par p9) p10])
    {pl : Env → Sem Bool} (hc : ∀ env : Env, eval (.Call (.Attribute (.Name "ClaimError" p1) "__init__" p2) [.Name "self" p3, .Constant (.str m) j p4] [] p5) env = (do
      let ov ← eval (.Name "ClaimError" p1) env
      standAt p2.atName
      let (f, first) ← holding [ov] (getMethod ov "__init__" (pl env))
      callWith p5 f first (backTo p5 (starEach [.Name "self" p3, .Constant (.str m) j p4] env)) (backToKw p5 (keywordEach [] env))))
    (hv1 : VisOk (defScope st) "self" = true) (hv2 : VisOk (defScope st) par = true) (hg : GlOk (defScope st) "ClaimError" = true) (hm : mg "ClaimError" = some (.ref B)) (ok : BaseOk K B) (T : OexC K C) (hno : PySem.W.findIn K (.ref C) fld = some none) (hne : (("self" : Str) == par) = false) :
    FnOk P w K mg base (L2.CX P w) 1 f fd ["self", par] (spE K C fld) := by
  refine Fn.okX S (fun vs H Q E h => by obtain ⟨a, y, rfl, _⟩ := h; rfl) fun cdv Ar outer s H vs Q E hr h => ?_
  have dx := dx_of (CX := L2.CX P w) (K := K) (mg := mg) (base := base) (P := P) (w := w) (f := f) (cdv := cdv) (Ar := Ar) (outer := outer) (s := s) (H := H) (E := E) (x := "__init__") (qual := qual) (Vn := ["self", par]) (L := []) (G := ["ClaimError"]) S
    (fun z hz => by rcases List.mem_cons.mp hz with rfl | hz; exact hv1; rw [List.mem_singleton.mp hz]; exact hv2) (fun _ hz => nomatch hz) (fun z hz => by rw [List.mem_singleton.mp hz]; exact hg) hr
  obtain ⟨v1, d1, e1⟩ := dx.v (x := "self") .z
  obtain ⟨v2, d2, e2⟩ := dx.v (x := par) (.s .z)
  obtain ⟨g1, g2, g3⟩ := dx.g (x := "ClaimError") .z
  refine ⟨_, by
    rw [hbody]
    exact pss_cons (ps_expr (pe_base g1 hm ok (pa_cons (pe_var (i := 0) rfl v1 d1 e1) (pa_cons pe_str pa_nil rfl) rfl) g2 (hc _) rfl rfl) rfl) (pss_one (ps_ost (pe_var (i := 0) rfl v1 d1 e1) (pe_var (i := 1) rfl v2 d2 e2) rfl)), ?_⟩
  obtain ⟨a, y, rfl, hH, q⟩ := h
  refine ⟨.ref a, rfl, a, C, [.str m], rfl, by simp, T, hH, y, rfl, .ref a, rfl, a, C, rfl, T, hno, .inl ⟨hH, fun d hd hda => q d hd hda⟩⟩
end
end DL
set_option Elab.async false
set_option linter.all false
set_option maxRecDepth 100000
set_option autoImplicit false
/-! DL, part 19: raising and catching errors with parts. -/
namespace DL
open PySem L2
/-- an own error class with one part, at its name -/
structure ErrAt1 (P : Program) (w : World) (K : PySem.W.Frag) (mg : Str → Option Value) (base : Heap) (x : Str) (C : Addr) (fld : Str) : Prop where
  ex : ∃ fI fd ps, FnOk P w K mg base (L2.CX P w) 1 fI fd ps (spE K C fld) ∧ Binds K fd ps [] ∧ PySem.W.findIn K (.ref C) "__init__" = some (some (.ref fI)) ∧ PySem.W.typeIn K (.ref fI) = some (.type "function")
  oex : OexC K C
  at_ : mg x = some (.ref C)
section
variable {X : Cx} {P : Program} {w : World} {K : PySem.W.Frag} {mg : Str → Option Value} {base : Heap} {N Vn L G B : List Str} {S : Scope} {k k2 n : Nat} {x y : Str} {i j j2 : Nat}
variable {m : Option Mem} {env : Ev} {a b c e iter elt o tg : Expr} {es : List Expr} {Q : D → Prop} {pos p2 p3 p4 pr : Pos} {R : DEnds} {rest body els : List Stmt} {ps : List Str} {C : Addr} {fld : Str}
theorem dl_raise1 (dx : DX X P w K mg base N Vn L G S k) (F : ErrAt1 P w K mg base x C fld) (h3 : At G j x) (hk : 2 ≤ k) (he : starEach [e] X.env = [(false, eval e X.env)]) (hpl : (backTo p3 (starEach [] X.env)).any (·.1) = false)
    (hw : WE X m env e fun d => R.ex C [(fld, d)] env) : WS X m env (.Raise (some (.Call (.Name x p2) [e] [] p3)) none pos) R := by
  obtain ⟨fI, fd, ps, Fn, hb, iC, tI⟩ := F.ex
  obtain ⟨g1, g2, g3⟩ := dx.g h3
  obtain rfl := dx.prog
  obtain rfl := dx.w_
  obtain rfl := dx.K_
  obtain rfl := dx.mg_
  obtain rfl := dx.base_
  refine ⟨fun σ F0 H0 Fl F' H De W s o => tsc (ps_raise dx.calm o.tk (pmk_oex F.oex iC tI Fn (dx.room.mono hk) hb .nil passL g1 F.at_ (pa_cons pe_can pa_nil he) g2 he hpl)) ?_⟩
  refine hw.run σ H0 F' H _ s.good s.env fun v d F1 H1 s1 hv q => ⟨by simp, fun ad had => ?_⟩
  refine ⟨ad, v, rfl, upd_same, fun dd hd hne => ⟨rfl, dd, [(fld, v)], upd_same, (upd_ne hne).trans upd_same, (upd_ne hne).symm.trans hd, ?_⟩⟩
  have hd1 : H1 dd = none := (upd_ne hne).symm.trans hd
  have e : upd (del (upd (upd (upd H1 ad (exo ad C none)) dd (exd dd [(fld, v)])) ad (exo ad C (some dd))) ad) dd (.xd [(fld, v)]) = upd H1 dd (.xd [(fld, v)]) := by
    funext z
    by_cases hz : z = dd
    · subst hz; rw [upd_same, upd_same]
    · rw [upd_ne hz, upd_ne hz]
      by_cases ha : z = ad
      · subst ha; rw [del_same, had]
      · rw [del_ne ha, upd_ne ha, upd_ne hz, upd_ne ha]
  rw [e]
  exact o.ex σ env F1 _ C (some dd) [(fld, d)] ((s.after s1).after (s1.good.fresh hd1)) ⟨by simp, (s.step.trans s1).none0 hd1, s1.good.noF hd1, [(fld, v)], upd_same, rfl, .cons hv .nil⟩ q
theorem dl_try1 {x1 n1 : Str} {c1 : Addr} {i1 j1 : Nat} {b1 : Stmt} {s1 : List Stmt} {np1 hp1 : Pos} (dx : DX X P w K mg base N Vn L G S k) (hst : X.stack = X.env :: X.outer) (hfr : X.env.frame = some X.env.locals)
    (g1 : At G j1 x1) (m1 : mg x1 = some (.ref c1)) (h1 : At N i1 n1) (k1 : X.env.kindOf n1 = some .local)
    (hw : ∀ X', DX X' P w K mg base N Vn L G S k → WSs X' m env body { R with ex := Caught X m K R [⟨c1, i1, b1 :: s1⟩] }) :
    WS X m env (.Try body [.ExceptHandler (some (.Name x1 np1)) (some n1) (b1 :: s1) hp1] [] [] pos) R := by
  have nm : ∀ {x : Str} {c : Addr} {j : Nat}, At G j x → mg x = some (.ref c) → Names X x (.ref c) := fun {x c j} hg hm => ⟨(dx.g hg).1, (dx.g hg).2.1, .inl (by rw [dx.mg_]; exact hm)⟩
  let TB : WX → TS := fun W De σ H => ∀ (pn : List (Addr × Obj)) (xe : Value → Shared → Prop), Takes (X.tr pn xe) W → PassesOwn (model X.prog X.w) X.A X.env xe → TSsc (X.tr pn xe) body De σ H
  let TSu : List Stmt → Addr → Value → Option Addr → TS := fun sts a cls d De σ H => ∀ oe pn, Zc cls d oe → (∃ vs, oe.data = .fields vs) → TSsc (X.suite a ((a, oe) :: pn)) sts De σ H
  refine ⟨fun σ F0 H0 Fl F H De W s o => tsc (ps_try_named (tb := TB) (l := [(.ref c1, i1, TSu (b1 :: s1))]) hst hfr dx.ndX o.tk
    (fun W' pn xe tk po => ⟨fun pins s' σ' H' D' I h => h pn xe tk po pins s' I⟩)
    (.cons (nm g1 m1) (dx.n h1) k1 (fun a oe cls d pn hz hf => ⟨fun pins s' σ' H' D' I h => h oe pn hz hf pins s' I⟩) .nil)) ?_⟩
  intro pn xe tk po
  have dx' : DX (X.tr pn xe) P w K mg base N Vn L G S k := ⟨dx.prog, dx.w_, dx.K_, dx.mg_, dx.base_, dx.N_, dx.nd, dx.S_, dx.vis, dx.loc, dx.fn, dx.gl, dx.calm, dx.room, po⟩
  refine (hw _ dx').run σ F0 H0 Fl F H De _ s ⟨o.nx, o.rt, o.bk, o.ct, tk, fun σ' env' F' H' C d fs s' hx q => ?_, o.ro⟩
  -- a clause that fits
  have suite : ∀ {cc : Addr} {i : Nat} {sts : List Stmt}, (∀ X' ad d, Suite X' ad C d → X'.K = X.K → X'.mg = X.mg → X'.N = X.N → X'.env = X.env → ∀ x, ExD ad C d fs x → WSs X' m (env'.set i (some (.frz x))) sts { nx := fun ev => R.nx (ev.set i none), rt := R.rt }) →
      ∀ a, H' a = none → TSu sts a (.ref C) d (aEnds i De) (σ'.set i (some (.ref a))) H' := fun {cc i sts} h a ha => by
    have hK : ExIs X.K H0 F' H' d fs := hx
    obtain ⟨F2', x, hxd, st⟩ := suite_sta (a := a) (C := C) s' hK i
    intro oe pn' hz hf
    refine (h (X.suite a ((a, oe) :: pn')) a d ⟨X, oe, pn', rfl, hz, hf⟩ rfl rfl rfl rfl x hxd).run _ F0 H0 Fl F2' H' _ (fun _ _ _ _ => False) st ?_
    refine ⟨fun σ2 env2 F2 H2 s2 q2 => o.nx _ _ F2 H2 ⟨s2.step, s2.env.wipe, s2.fl⟩ q2, fun v d σ2 env2 F2 H2 s2 hv q2 => o.rt v d σ2 env2 F2 H2 ⟨s2.step, s2.env, s2.fl⟩ hv q2, fun _ _ _ _ _ z => z.elim, fun _ _ _ _ _ z => z.elim, takes0, fun _ _ _ _ _ _ _ _ _ z => z.elim, fun _ _ _ _ _ _ _ _ _ z => z.elim⟩
  obtain ⟨r1, e1, y1, n1'⟩ := q
  refine ⟨r1, by rw [dx.K_]; exact e1, fun hb a ha => suite (cc := c1) (y1 hb) a ha, fun hb => ?_⟩
  exact o.ex σ' env' F' H' C d fs s' hx (n1' hb)
/-! ### within the suite -/
theorem lookup_is {K : PySem.W.Frag} {F : Hp} {f : Str} {d : D} : ∀ {gs : List (Str × V)} {fs : List (Str × D)}, gs.map (·.1) = fs.map (·.1) → IsAll K F (gs.map (·.2)) (fs.map (·.2)) → fs.lookup f = some d → ∃ u, gs.lookup f = some u ∧ Is K F u d
  | [], [], _, _, h => by cases h
  | [], _ :: _, h, _, _ => by cases h
  | _ :: _, [], h, _, _ => by cases h
  | (n, v) :: gs, (n', e) :: fs, hn, ha, hl => by
    rw [List.map_cons, List.map_cons] at hn
    injection hn with h1 h2
    simp only at h1
    subst h1
    cases ha with
    | cons i1 i2 =>
      rw [List.lookup_cons] at hl ⊢
      cases hb : (f == n) with
      | true =>
        rw [hb] at hl
        cases hl
        exact ⟨v, rfl, i1⟩
      | false =>
        rw [hb] at hl
        exact lookup_is h2 i2 hl
def rIsP (K : PySem.W.Frag) (D a dd : Addr) : List V → Hp → VK → Prop := fun xs H Q => ∃ (c : V) (cv : Value) (b : Bool), xs = [.ref a, c] ∧ (∃ gs, H dd = some (.xd gs)) ∧ (∀ u, RelV c u → u = cv) ∧ PySem.W.kitOne K (.ref D) cv = some b ∧ Q (.bl b) H
theorem call_isP {X : Cx} {a D dd : Addr} {oe : Obj} {pn : List (Addr × Obj)} (C : ExcC X.K D) (hz : Zc (.ref D) (some dd) oe) (hf : ∃ vs, oe.data = .fields vs) : CallR (X.suite a ((a, oe) :: pn)) (.builtin "isinstance") (rIsP X.K D a dd) := by
  intro pins s σ H xs us Q I r h
  obtain ⟨c, cv, b, rfl, ⟨gs, hg⟩, hcv, e, q⟩ := h
  cases r with
  | cons r1 r =>
    cases r with
    | cons r2 r =>
      cases r
      cases r1
      obtain rfl := hcv _ r2
      have hp := (I.pin (a, oe) (List.mem_append_left _ List.mem_cons_self)).1
      obtain ⟨fv, hfv⟩ := hf
      have ho : ObjOk X.prog X.w H s.heap dd (.xd gs) := I.hok dd _ hg
      obtain ⟨mA, hns, _⟩ := ho
      obtain ⟨od, hod, _⟩ := lookIn_ns hns
      have J : PySem.W.InstAt s.heap a oe D (some od) := ⟨hp, hz.1, by unfold PySem.W.notCls; rw [hfv] <;> rfl, by rw [hz.2]; exact hod⟩
      obtain ⟨cd, hcd, _⟩ := PySem.W.any_some C.hd
      exact PySem.W.kia_one (PySem.W.kitx_exc (by rw [hcd]; rfl) C.hg C.hk C.hs C.ha C.hn C.ht C.hm) I.kIn J e (fun z => nomatch z) fun tk => ⟨.bl b, H, I.kept (t' := tk) fun _ _ z => z, rfl, q⟩
theorem dy_isP {ad dd T : Addr} {fs : List (Str × D)} {r : Bool} (dy : DY X K mg N Vn G S) (bn : NoMg mg B) (su : Suite X ad C (some dd)) (hc : ExcC K C) (h1 : At N i x) (h2 : At Vn j x) (he : env[i]? = some (some (.frz (.exc ad C dd fs)))) (h3 : At G j2 "isinstance") {j3 j4 : Nat} (h4 : At B j3 "isinstance") (h5 : At G j4 y) (hy : mg y = some (.ref T))
    (hk : PySem.W.kitOne K (.ref C) (.ref T) = some r) (h : Q (.bl r)) : WE X m env (.Call (.Name "isinstance" p2) [.Name x p3, .Name y p4] [] pos) Q := by
  obtain ⟨X0, oe, pn, rfl, hz, hf⟩ := su.ex
  obtain ⟨g1, g2, g3⟩ := dy.g h3
  obtain ⟨y1, y2, y3⟩ := dy.g h5
  obtain rfl := dy.K_
  refine we_cb (call_isP hc hz hf) g1 (by rw [dy.mg_]; exact bn _ h4.mem) boot_isinstance g3 g2 rfl rfl (wa_cons (dy_name dy h1 h2 he (wa_cons (we_glob (d := .ref T) (v := .ref T) (u := .ref T) y1 (by rw [dy.mg_]; exact hy) rfl rfl y2 (wa_nil ⟨fun F H vs kk g hvs t => ?_⟩)) rfl)) rfl)
  cases hvs with
  | cons a1 r1 =>
    cases a1 with
    | exc hd hn ha =>
      cases r1 with
      | cons a2 r2 =>
        cases a2
        cases r2
        exact ⟨.ref T, .ref T, r, rfl, ⟨_, g.sub _ _ hd⟩, fun u ru => ru, hk, t.at g (.bl r) h⟩
theorem dy_part {ad dd : Addr} {fs : List (Str × D)} {d : D} (dy : DY X K mg N Vn G S) (su : Suite X ad C (some dd)) (hc : XfC K C) (hno : PySem.W.findIn K (.ref C) fld = some none) (h1 : At N i x) (h2 : At Vn j x) (he : env[i]? = some (some (.frz (.exc ad C dd fs)))) (hl : fs.lookup fld = some d)
    (hb : attributeBase (.Name x p3) fld X.env (eval (.Name x p3) X.env) = eval (.Name x p3) X.env) (h : Q d) : WE X m env (.Attribute (.Name x p3) fld pos) Q := by
  obtain ⟨X0, oe, pn, rfl, hz, hf⟩ := su.ex
  obtain rfl := dy.K_
  refine ⟨fun σ H0 F H k g ev t => tec (pe_xf hc hno hz hf pe_can hb) ?_⟩
  refine (dy_name (Q := fun d => d = .exc ad C dd fs) dy h1 h2 he rfl).run σ H0 F H _ g ev fun v d2 F1 H1 s1 hv e2 => ?_
  subst e2
  cases hv with
  | exc hd hn ha =>
    obtain ⟨u, hu, iu⟩ := lookup_is hn ha hl
    exact ⟨rfl, rfl, dd, _, u, rfl, s1.good.sub _ _ hd, hu, (t.after s1).at s1.good iu h⟩
end
end DL
set_option Elab.async false
set_option linter.all false
set_option maxRecDepth 100000
set_option autoImplicit false
/-! DL, part 20: calls within an expression of defs that might raise and don't; comprehensions over pairs. -/
namespace DL
open PySem L2
section
variable {X : Cx} {P : Program} {w : World} {K : PySem.W.Frag} {mg : Str → Option Value} {base : Heap} {N Vn L G B : List Str} {S : Scope} {k k2 n : Nat} {x : Str} {i j j2 : Nat}
variable {m : Option Mem} {env : Ev} {a b c e iter elt o tg : Expr} {es : List Expr} {Q : D → Prop} {pos p2 p3 p4 pr : Pos} {R : DEnds} {ps : List Str} {bs : List Bool} {C : Addr}
theorem dl_pureX {A : List D → (D → Prop) → (Addr → List (Str × D) → Prop) → Prop} (dx : DX X P w K mg base N Vn L G S k) (F : FnAt P w K mg base x k2 ps (spX K n A)) (h3 : At G j x) (hk : k2 ≤ k) (he : starEach (e :: es) X.env = (false, eval e X.env) :: starEach es X.env) (hpl : (backTo pos (starEach es X.env)).any (·.1) = false)
    (hw : WA X m env (e :: es) fun ds => ds.length = n ∧ A ds Q fun _ _ => False) : WE X m env (.Call (.Name x p2) (e :: es) [] pos) Q := by
  obtain ⟨f, fd, Fn, hm, hkp, hb⟩ := F.ex
  obtain ⟨g1, g2, g3⟩ := dx.g h3
  obtain rfl := dx.prog
  obtain rfl := dx.w_
  obtain rfl := dx.K_
  obtain rfl := dx.mg_
  obtain rfl := dx.base_
  refine ⟨fun σ H0 F H k g ev t => tec (pe_call Fn (dx.room.mono hk) g1 hm hkp hb .nil passL pa_can g2 he hpl) ?_⟩
  refine hw.run σ H0 F H _ g ev fun vs ds F1 H1 s1 hvs q => ?_
  rw [List.append_nil]
  exact ⟨by rw [hvs.length]; exact q.1, F1, ds, Q, _, s1.good.any, hvs, q.2, fun v d F2 H2 s2 hv hP => t v d F2 H2 (s1.trans (s2.any s1.good)) hv hP, fun _ _ _ _ _ _ _ z => z.elim⟩
theorem dl_makeXL {A : List D → (List (Str × D) → Prop) → (Addr → List (Str × D) → Prop) → Prop} (dx : DX X P w K mg base N Vn L G S k) (F : MkAt P w K mg base x C k2 ps (spIXL K C bs A)) (h3 : At G j x) (hk : k2 + 1 ≤ k) (he : starEach (e :: es) X.env = (false, eval e X.env) :: starEach es X.env) (hpl : (backTo p3 (starEach es X.env)).any (·.1) = false)
    (hw : WAL X m env bs (e :: es) fun ds => A ds (fun fs => R.rt (.ins C fs) env) fun C fs => R.ex C fs env) : WS X m env (.Return (some (.Call (.Name x p2) (e :: es) [] p3)) pos) R := dl_retMakeXL dx F h3 hk he hpl hw
/-! ### over pairs -/
theorem wipe2 {σ : L2.St} {t u : Nat} {v w : V} (h : t ≠ u) : (((((σ.set u none).set t none).set t (some v)).set u (some w)).set u none).set t none = (σ.set u none).set t none := by
  refine List.ext_getElem? fun i => ?_
  simp only [List.getElem?_set, List.length_set]
  by_cases h1 : u = i
  · simp [h1]
  · by_cases h2 : t = i
    · simp [h1, h2]
    · simp [h1, h2]
theorem comp_turn2 {scope : Scope} {t u : Nat} {σ : L2.St} {H0 F1 H1 : Hp} {L : Addr} {Pi : Nat → D → Prop} {i : Nat} {H : Hp} {v : V} {d1 d2 : D} (htu : t ≠ u) (ev : Envs X.K m H0 F1 H1 σ env) (hL : H1 L = none) (hm : ¬ Touch m L) (hi : i < 1000000) (I : CompI X.K m F1 H1 L Pi i H) (hv : ∀ F', Same F1 F' → Is X.K F' v (.tup [d1, d2]))
    (w : WB X m ((((env.set u none).set t none).set t (some (.frz d1))).set u (some (.frz d2))) scope elt (Pi i)) :
    gTup X.K 2 (gCons (gName t) (gCons (gName u) gNil)) v (wipe σ [t, u]) H fun σ2 H2 => wipe σ2 [t, u] = wipe σ [t, u] ∧ tYes σ2 H2 fun b H3 => if b = true then TBc X scope elt σ2 H3 fun y H4 => ∃ acc, H4 L = some (.lst acc) ∧ acc.length < sizeLine ∧ CompI X.K m F1 H1 L Pi (i + 1) (upd H4 L (.lst (acc ++ [y]))) else CompI X.K m F1 H1 L Pi (i + 1) H3 := by
  obtain ⟨F', acc, ds, s1, hF, hL2, ha, hl, hP⟩ := I
  have hv1 := hv F' s1.fs
  cases hv1 with
  | tup q1 q2 =>
    rename_i p xs
    cases q2 with
    | cons i1 r1 =>
      cases r1 with
      | cons i2 r2 =>
        cases r2
        rename_i v1 v2
        refine ⟨p, _, rfl, .of (s1.good.sub _ _ q1), rfl, v1, [v2], rfl, v2, [], rfl, rfl, wipe2 htu, ?_⟩
        unfold tYes
        dsimp only
        rw [if_pos rfl]
        intro s H0' C cl fp
        have ev2 : Envs X.K m H0 F' H ((((σ.set u none).set t none).set t (some v1)).set u (some v2)) ((((env.set u none).set t none).set t (some (.frz d1))).set u (some (.frz d2))) := ((((ev.step s1).wipe).wipe).frz i1).frz i2
        refine (w.at_ s H0' C cl fp).run _ H0 F' H _ s1.good ev2 fun y dy F2 H2 s2 hy hPy => ?_
        have hL3 : H2 L = some (.lst acc) := s2.keep L _ hm hL2
        have hF2 := s2.noF hF ⟨_, hL2⟩
        refine ⟨acc, hL3, ?_, F2, acc ++ [y], ds ++ [dy], (s1.trans s2).mut hF2 hm hL, hF2, upd_same, (ha.mono s2.fs).append (.cons hy .nil), ?_, fun j e he => ?_⟩
        · rw [ha.length, hl, sizeLine_eq]; omega
        · rw [List.length_append, hl]; rfl
        · rcases Nat.lt_or_ge j ds.length with hj | hj
          · rw [List.getElem?_append_left hj] at he
            exact hP j e he
          · rw [List.getElem?_append_right hj] at he
            have e0 : j - ds.length = 0 := by
              rcases Nat.eq_zero_or_pos (j - ds.length) with z | z
              · exact z
              · rw [List.getElem?_eq_none (by simp; omega)] at he; cases he
            rw [e0] at he
            have : j = i := by omega
            subst this
            cases he
            exact hPy
theorem dl_comp2 {x1 x2 : Str} {pt q1 q2 : Pos} {k0 : Nat} (t u : Nat) (own : List (Str × Nat)) (Vc Gc : List Str) {scope : Scope} (dx : DX X P w K mg base N Vn L G S k) (ok : blkC N S scope own = true) (hown : own.map (·.2) = [t, u]) (htu : t ≠ u) (h1 : At N t x1) (h2 : At N u x2) (hx1 : LocOk scope x1 = true) (hx2 : LocOk scope x2 = true) (hv : ∀ x ∈ Vc, VisOk (relS scope S) x = true) (hg : ∀ x ∈ Gc, GlOk (relS scope S) x = true)
    (hs : ∀ y, foldedSetIterable iter X.env y = pure y) {Q : List D → Prop}
    (hw : WE X m env iter fun x => asLst x fun ds => ds.length ≤ 1000000 ∧ ∃ Pi : Nat → D → Prop, (∀ (i : Nat) (d : D), ds[i]? = some d → ∃ d1 d2, d = .tup [d1, d2] ∧ ∀ X', DX X' P w K mg base N Vc [] Gc (relS scope S) k → X'.K = X.K → WE X' m ((((env.set u none).set t none).set t (some (.frz d1))).set u (some (.frz d2))) elt (Pi i)) ∧ ∀ es : List D, es.length = ds.length → (∀ (i : Nat) (e : D), es[i]? = some e → Pi i e) → Q es) :
    WL X m env (.ListComp elt [⟨.Tuple [.Name x1 q1, .Name x2 q2] k0 pt, iter, [], 0⟩] scope pos) Q := by
  have okb : BlkOk X.N X.env.scope scope own := by rw [dx.N_, dx.S_]; exact blkOk_by ok
  have pg : ∀ (s : Shared) (H : Hp) (C : Addr) (cl : List (Str × Addr)) (fp : List Addr), PG (X.blk s H scope (compEnvC scope cl C X.env) fp) (.Tuple [.Name x1 q1, .Name x2 q2] k0 pt) (gTup X.K 2 (gCons (gName t) (gCons (gName u) gNil))) := fun s H C cl fp =>
    pg_tup (X := X.blk s H scope (compEnvC scope cl C X.env) fp) dx.calm (pgs_cons (blk_pg dx h1 hx1 s H C cl fp) (pgs_cons (blk_pg dx h2 hx2 s H C cl fp) pgs_nil)) rfl rfl
  refine ⟨fun σ H0 F H k g ev th => tec (pe_lc (te := TBc X scope elt) dx.calm dx.ndX (pi_list pe_can) okb pg (fun _ _ _ _ _ => pts_nil) (fun s H C cl fp => ⟨fun pins s2 σ2 H2 Q I h => h s H C cl fp pins s2 I⟩) hs) ?_⟩
  refine hw.run σ H0 F H _ g ev fun v d F1 H1 s1 hv' q => ?_
  obtain ⟨p, xs, ds, rfl, rfl, g1, g2, hz, Pi, hP, hQ⟩ := hv'.asLst q
  have g1' := s1.good.sub _ _ g1
  refine ⟨p, rfl, ⟨xs, .of g1'⟩, fun L hL => ?_⟩
  rw [hown]
  refine lc_list (K := X.K) (a := p) (xs := xs) (CompI X.K m F1 H1 L Pi) (comp_start (σ := σ) s1.good hL) (fun i H2 hi I => ?_) (fun i v H2 hi I => ?_) fun H2 I => ?_
  · obtain ⟨F', acc, es, s2, _⟩ := I
    exact .of (s2.good.sub _ _ (s2.fs _ _ g1))
  · obtain ⟨d, hd, iv⟩ := g2.getV hi
    have hlt : i < ds.length := (List.getElem?_eq_some_iff.mp hd).1
    obtain ⟨d1, d2, rfl, hE⟩ := hP i d hd
    exact comp_turn2 htu (ev.step s1) hL (s1.good.notm hL) (by omega) I (fun F' sm => iv.mono sm) ⟨fun s H C cl fp => hE _ (blk_dx dx hv hg s H C cl fp) rfl⟩
  · exact comp_end g s1 hL (by rw [← g2.length]; exact I) th hQ
end
end DL
set_option Elab.async false
set_option linter.all false
set_option maxRecDepth 100000
set_option autoImplicit false
/-! DL, part 21: for x in range(a, b). -/
namespace DL
open PySem L2
section
variable {X : Cx} {P : Program} {w : World} {K : PySem.W.Frag} {mg : Str → Option Value} {base : Heap} {N Vn L G B : List Str} {S : Scope} {k k2 n : Nat} {x : Str} {i j j2 : Nat}
variable {m : Option Mem} {env : Ev} {a b c e iter elt o tg : Expr} {es : List Expr} {Q : D → Prop} {pos p2 p3 p4 pr : Pos} {R : DEnds} {ps : List Str} {body : List Stmt}
theorem dl_forR2 (t : Nat) (dx : DX X P w K mg base N Vn L G S k) (bn : NoMg mg B) (h1 : At N t x) (h2 : At L j x) {j3 j4 : Nat} (h3 : At G j3 "range") (h4 : At B j4 "range") (hst : starEach [a, b] X.env = [(false, eval a X.env), (false, eval b X.env)]) (hst2 : starEach [b] X.env = [(false, eval b X.env)])
    (hs : ∀ y, foldedSetIterable (.Call (.Name "range" p3) [a, b] [] pr) X.env y = pure y)
    (h : WE X m env a fun d => WE X m env b fun d2 => asInt d fun lo => asInt d2 fun hi => (-1000000 ≤ lo ∧ lo ≤ 1000000 ∧ -1000000 ≤ hi ∧ hi ≤ 1000000) ∧ ∃ I : Nat → Ev → Prop, I 0 env ∧
      (∀ (i : Nat) (env' : Ev), lo + (i : Int) < hi → I i env' → WSs X m (env'.set t (some (.frz (.int (lo + i))))) body { nx := I (i + 1), ct := I (i + 1), bk := R.nx, rt := R.rt, ex := R.ex, ro := R.ro }) ∧ ∀ env', I (hi - lo).toNat env' → R.nx env') :
    WS X m env (.For (.Name x p2) (.Call (.Name "range" p3) [a, b] [] pr) body [] pos) R := by
  obtain ⟨l1, l2⟩ := dx.l h2
  refine ⟨fun σ F0 H0 Fl F H De W s o => tsc (ps_for dx.pass dx.calm (pi_range2 (dx.g h3).1 (dx.b bn h4) (pa_cons pe_can (pa_cons pe_can pa_nil hst2) (by rw [hst, hst2])) hst hst2) (pg_name dx.ndX (dx.n h1) l1 l2) pss_can hs) ?_⟩
  refine h.run σ H0 F H _ s.good s.env fun v d F1 H1 s1 hv w1 => ?_
  refine w1.run σ H0 F1 H1 _ s1.good (s.env.step s1) fun v2 d2 F2 H2 s2 hv2 q => ?_
  obtain ⟨lo, rfl, rfl, q⟩ := hv.asInt q
  obtain ⟨hi, rfl, rfl, ⟨z1, z2, z3, z4⟩, I, i0, turn, fin⟩ := hv2.asInt q
  have st := s1.trans s2
  refine ⟨lo, hi, rfl, ⟨by omega, by omega, by omega, by omega⟩, ?_⟩
  refine for_range (fun i σ H => ∃ F' env', Sta X.K m F0 H0 F2 F' H σ env' ∧ I i env') ⟨F2, env, ⟨s.step.trans st, s.env.step st, Same.refl _⟩, i0⟩ (fun i σ H hlt ⟨F', env', s', hI⟩ => ?_) fun σ H ⟨F', env', s', hI⟩ => ?_
  · refine (turn i env' (by omega) hI).run _ F0 H0 F2 F' H _ W ⟨s'.step, s'.env.frz (.int _), s'.fl⟩ ?_
    exact ⟨fun σ env F3 H3 s3 w => ⟨F3, env, s3, w⟩, fun v d σ env F3 H3 s3 => o.rt v d σ env F3 H3 (s3.floor (s.fl.trans st.fs)), fun σ env F3 H3 s3 w => o.nx σ env F3 H3 (s3.floor (s.fl.trans st.fs)) w, fun σ env F3 H3 s3 w => ⟨F3, env, s3, w⟩, o.tk, fun σ env F3 H3 C d fs s3 => o.ex σ env F3 H3 C d fs (s3.floor (s.fl.trans st.fs)), fun v d σ env F3 H3 s3 => o.ro v d σ env F3 H3 (s3.floor (s.fl.trans st.fs))⟩
  · exact o.nx σ env' F' H (s'.floor (s.fl.trans st.fs)) (fin env' hI)
end
end DL
set_option Elab.async false
set_option linter.all false
set_option maxRecDepth 100000
set_option autoImplicit false
set_option maxHeartbeats 1000000
/-! DL, part 22: errors as values; a list of the frame's own that is popped. -/
namespace DL
open PySem L2 PySem.Spec PyProof.Rows
section
variable {X : Cx} {C : Addr} {x : Str} {p pos : Pos} {e : Expr} {es : List Expr} {ta : TA}
/-- C(), an error without parts, as a value -/
theorem pe_bareV {bmB : List Value} {B newId initId : String} (F : ExcBaseFacts B newId initId bmB) (q : PySem.W.excIn X.K C bmB newId = true) (gC : X.mg x = some (.ref C)) (kC : PySem.W.keepIn X.K (.ref C) = true) (hg : Gl X x) (hdb : (x == ("__debug__" : Str)) = false) :
    PE X (.Call (.Name x p) [] [] pos) (fun _ H Q => ∀ a, H a = none → Q (.ref a) (upd H a (ExO (.ref C) a))) := by
  refine ⟨fun pins s σ H Q I h => ?_⟩
  refine wpAny_Call_Name_kw (ld_glob I hg gC ?_ hdb)
  refine PySem.W.callWith_K0 I.kIn kC ?_
  show wpAny _ _ (call (.ref C) []) _ _ _
  obtain ⟨bm, ns, nm, qn, bs, hdct, sn, sub, ab, col, dd, k0, k1, k2, k3, k5, mN, hC, hN, hni, T⟩ := exc_obj I.kIn q
  refine wpAny_call_exc_subT F T hC hN hni (fun hx ex hm => ?_) (Nat.zero_le _)
  have hn : H ex = none := I.hok.gone hm.new
  obtain ⟨t, ht, _, _⟩ := hm.there
  exact ⟨.ref ex, upd H ex (ExO (.ref C) ex), I.laidN hm.keeps hm.new hn (exO_ok ht ⟨rfl, rfl⟩ rfl rfl rfl (show 4 < 6 by decide)), rfl, h ex hn⟩
/-- C(e, ..), C's own __init__ keeping sp, as a value -/
theorem pe_oexV {CX : CXT} {fI : Addr} {k : Nat} {fd : FuncData} {ps : List Str} {sp : Sp} {ds : List Value} {dvs : List V} (T : OexC X.K C) (iC : PySem.W.findIn X.K (.ref C) "__init__" = some (some (.ref fI))) (tI : PySem.W.typeIn X.K (.ref fI) = some (.type "function"))
    (F1 : FnOk X.prog X.w X.K X.mg X.base CX k fI fd ps sp) (hr : Room (k + 1) X.A) (hb : Binds X.K fd ps ds) (hd : Vals dvs ds) (hx : Passes CX X (fun _ _ _ => False)) (hg : Gl X x) (hm : X.mg x = some (.ref C)) (ha : PA X (e :: es) ta)
    (hdb : (x == ("__debug__" : Str)) = false) (he : starEach (e :: es) X.env = (false, eval e X.env) :: starEach es X.env) (hpl : (backTo pos (starEach es X.env)).any (·.1) = false) :
    PE X (.Call (.Name x p) (e :: es) [] pos) (fun σ H Q => ta σ H fun vs H1 => vs.length ≤ 1000 ∧ ∀ a, H1 a = none → sp (.ref a :: (vs ++ dvs)) (upd H1 a (exo a C none)) (fun v H2 => v = .non ∧ Q (.ref a) H2) (fun _ _ _ => False)) := by
  refine ⟨fun pins s σ H Q I h => ?_⟩
  obtain ⟨nm, q, N, bs, bm, sn, sub, ab, col, dd, k0, k1, k2, k3, k5, hC, hbm⟩ := T.cls
  refine wpAny_Call_Name_kw (ld_glob I hg hm ?_ hdb)
  refine PySem.W.callWith_K (h₀ := X.base) I.ok.mod.kin T.kC (thn (ha.run pos pins s σ H _ I h) fun us s1 ⟨vs, H1, I1, r1, hz, q1⟩ => ⟨I1.kIn, ?_⟩) he hpl
  show wpAny _ _ (call (.ref C) us) _ _ _
  obtain ⟨hp, g, dr, tk, os⟩ := s1
  have hsz : hp.objs.size ≤ hp.objs.size + 1 := Nat.le_succ _
  have hn : H1 (hp.objs.size + 1) = none := I1.hok.fresh hsz
  have hq := q1 (hp.objs.size + 1) hn
  have kk : ∀ b o, hp.get? b = some o → ((hp.push (PySem.W.kdv_tup us)).push (PySem.HandSPX.excO C hp.objs.size)).get? b = some o := fun b o e => Heap.get?_push_of_some _ (Heap.get?_push_of_some _ e)
  have hget : ((hp.push (PySem.W.kdv_tup us)).push (PySem.HandSPX.excO C hp.objs.size)).get? (hp.objs.size + 1) = some (PySem.HandSPX.excO C hp.objs.size) := by heap_get
  have I2 : Inv X pins σ (upd H1 (hp.objs.size + 1) (exo (hp.objs.size + 1) C none)) ⟨(hp.push (PySem.W.kdv_tup us)).push (PySem.HandSPX.excO C hp.objs.size), g, dr, tk, os⟩ :=
    I1.laid (t' := tk) (a := hp.objs.size + 1) (o := exo (hp.objs.size + 1) C none) (h' := (hp.push (PySem.W.kdv_tup us)).push (PySem.HandSPX.excO C hp.objs.size)) kk hsz (exo_ok hget)
  have r2 : Vals (V.ref (hp.objs.size + 1) :: (vs ++ dvs)) (Value.ref (hp.objs.size + 1) :: (us ++ ds)) := .cons rfl (r1.append hd)
  have hl : (Value.ref (hp.objs.size + 1) :: us ++ ds).length = ps.length := by
    have e := r2.length
    rw [F1.len _ _ _ _ hq] at e
    exact e.symm
  have hus : us.length ≤ sizeLine := by
    rw [← Paired.length r1, sizeLine_eq]
    omega
  refine wpAny_call (PySem.HandSPX.call_own F.excBase_ValueError (fun Y => PySem.HandSPX.refsVE_contains Y bm hbm) (I1.kIn _ _ hC) (PySem.W.looks_findIn I1.kIn iC) (fun self => PySem.W.bind_fn I1.kIn self tI) hus
    (codeAny_mono (F1.run _ X.stack _ _ ⟨Value.ref (hp.objs.size + 1) :: us, []⟩ (Value.ref (hp.objs.size + 1) :: (us ++ ds)) _ _ (fun _ _ _ => False) (hr.make C us []) (I2.env0.make C us []) (hb _ (Value.ref (hp.objs.size + 1) :: us) I2.kIn hl) r2 hq) fun r s' hq' => ?_))
  cases r with
  | error er => exact hx pins σ _ _ er s' I2 hq'
  | ok fl =>
    cases fl with
    | ret u =>
      obtain ⟨v, H2, os2, bare2, un2, hok2, rv, ev, q2⟩ := hq'
      subst ev
      exact ⟨rv, .ref (hp.objs.size + 1), H2, I2.call' (ch := []) os2 un2 hok2 bare2 (fun b z => absurd z (by simp)), rfl, q2⟩
    | next => exact False.elim hq'
    | brk => exact False.elim hq'
    | cont => exact False.elim hq'
end
/-! ### isinstance and parts of it -/
def ErrIn (H : Hp) (a C : Addr) : Prop := H a = some (ExO (.ref C) a) ∨ ∃ d gs, H a = some (exo a C (some d)) ∧ H d = some (exd d gs)
def rIsV (K : PySem.W.Frag) : List V → Hp → VK → Prop := fun xs H Q => ∃ (a C : Addr) (c : V) (cv : Value) (b : Bool), xs = [.ref a, c] ∧ ErrIn H a C ∧ ExcC K C ∧ (∀ u, RelV c u → u = cv) ∧ PySem.W.kitOne K (.ref C) cv = some b ∧ Q (.bl b) H
theorem call_isV {X : Cx} : CallR X (.builtin "isinstance") (rIsV X.K) := by
  intro pins s σ H xs us Q I r h
  obtain ⟨a, D, c, cv, b, rfl, ho, C, hcv, e, q⟩ := h
  cases r with
  | cons r1 r =>
    cases r with
    | cons r2 r =>
      cases r
      cases r1
      obtain rfl := hcv _ r2
      rcases ho with ho | ⟨d, gs, ho, hd⟩
      · have x : ObjOk X.prog X.w H s.heap a (ExO (.ref D) a) := I.hok a _ ho
        obtain ⟨⟨oe, vs, hget, hz, hdat, _⟩, _, _⟩ := x
        have J : PySem.W.InstAt s.heap a oe D none := by
          obtain ⟨oc, od, oda, osl⟩ := oe
          obtain ⟨h1, h2⟩ := hz
          dsimp only at h1 h2 hdat
          subst h1 h2 hdat
          exact ⟨hget, rfl, rfl, trivial⟩
        exact PySem.W.kia_one (PySem.W.handS_kitx_exc C.hg C.hk C.hs C.hd C.ha C.hn C.ht C.hm) I.kIn J e (fun z => nomatch z) fun tk => ⟨.bl b, H, I.kept (t' := tk) fun _ _ z => z, rfl, q⟩
      · obtain ⟨t1, hget⟩ := exo_at I.hok ho
        obtain ⟨mA, hns, _⟩ := exd_at I.hok hd
        obtain ⟨od, hod, _⟩ := lookIn_ns hns
        have J : PySem.W.InstAt s.heap a _ D (some od) := ⟨hget, rfl, rfl, hod⟩
        obtain ⟨cd, hcd, _⟩ := PySem.W.any_some C.hd
        exact PySem.W.kia_one (PySem.W.kitx_exc (by rw [hcd]; rfl) C.hg C.hk C.hs C.ha C.hn C.ht C.hm) I.kIn J e (fun z => nomatch z) fun tk => ⟨.bl b, H, I.kept (t' := tk) fun _ _ z => z, rfl, q⟩
/-- the reading of a part -/
theorem pe_xfV {X : Cx} {e : Expr} {te : TE} {pos : Pos} {n : Str} (he : PE X e te) (hb : attributeBase e n X.env (eval e X.env) = eval e X.env) :
    PE X (.Attribute e n pos) (fun σ H Q => te σ H fun x H1 => ∃ a d C gs v, x = .ref a ∧ XfC X.K C ∧ PySem.W.findIn X.K (.ref C) n = some none ∧ H1 a = some (exo a C (some d)) ∧ H1 d = some (exd d gs) ∧ gs.lookup n = some v ∧ Q v H1) := by
  refine ⟨fun pins s σ H Q I h => ?_⟩
  refine attr_of hb (thn (he.run pins s σ H _ I h) fun u s1 hh => ?_)
  obtain ⟨x, H1, I1, rx, a, d, C, gs, v, ex, T, hno, ho, hd, l, q⟩ := hh
  subst ex
  obtain rfl : u = Value.ref a := rx
  obtain ⟨t1, hget⟩ := exo_at I1.hok ho
  obtain ⟨mA, hns, hr⟩ := exd_at I1.hok hd
  obtain ⟨od, hod, hl⟩ := lookIn_ns hns
  obtain ⟨u, hu, ru⟩ := RelO.some_of (v := v) (o := mA n) (by rw [← l]; exact hr n)
  have J : PySem.W.InstAt s1.heap a _ C (some od) := ⟨hget, rfl, rfl, hod⟩
  exact HandSPX.exc_get I1.kIn J T.ga T.gg T.exC (PySem.W.findObj_own T.hdC hno rfl (by rw [hl, hu])) (handed_of ru) ⟨v, H1, I1.tok _, ru, q⟩
section
variable {X : Cx} {P : Program} {w : World} {K : PySem.W.Frag} {mg : Str → Option Value} {base : Heap} {N Vn L G B : List Str} {S : Scope} {k k2 n : Nat} {x y : Str} {i j j2 : Nat}
variable {m : Option Mem} {env : Ev} {a b c e iter elt o tg : Expr} {es : List Expr} {Q : D → Prop} {pos p2 p3 p4 pr : Pos} {R : DEnds} {C : Addr} {fld : Str}
theorem dl_er0 (dx : DX X P w K mg base N Vn L G S k) (F : ErrAt K mg x C) (h3 : At G j x) (h : Q (.er0 C)) : WE X m env (.Call (.Name x p2) [] [] p3) Q := by
  obtain ⟨bmB, B', nI, iI, F1, F2⟩ := F.ex
  obtain ⟨g1, g2, g3⟩ := dx.g h3
  obtain rfl := dx.K_
  obtain rfl := dx.mg_
  refine ⟨fun σ H0 F' H kk g ev t => tec (pe_bareV F1 F2 F.at_ F.kp g1 g2) fun a ha => ?_⟩
  exact t _ (.er0 C) _ _ (g.grow ha) (.er0 upd_same) h
theorem dl_er1 (dx : DX X P w K mg base N Vn L G S k) (F : ErrAt1 P w K mg base x C fld) (h3 : At G j x) (hk : 2 ≤ k) (he : starEach [e] X.env = [(false, eval e X.env)]) (hpl : (backTo p3 (starEach [] X.env)).any (·.1) = false)
    (hw : WE X m env e fun d => Q (.er1 C fld d)) : WE X m env (.Call (.Name x p2) [e] [] p3) Q := by
  obtain ⟨fI, fd, ps, Fn, hb, iC, tI⟩ := F.ex
  obtain ⟨g1, g2, g3⟩ := dx.g h3
  obtain rfl := dx.prog
  obtain rfl := dx.w_
  obtain rfl := dx.K_
  obtain rfl := dx.mg_
  obtain rfl := dx.base_
  refine ⟨fun σ H0 F' H kk g ev t => tec (pe_oexV F.oex iC tI Fn (dx.room.mono hk) hb .nil passL g1 F.at_ (pa_cons pe_can pa_nil he) g2 he hpl) ?_⟩
  refine hw.run σ H0 F' H _ g ev fun v d F1 H1 s1 hv q => ⟨by simp, fun ad had => ?_⟩
  refine ⟨ad, v, rfl, upd_same, fun dd hd hne => ⟨rfl, ?_⟩⟩
  have hd1 : H1 dd = none := (upd_ne hne).symm.trans hd
  have e : upd (upd (upd H1 ad (exo ad C none)) dd (exd dd [(fld, v)])) ad (exo ad C (some dd)) = upd (upd H1 dd (exd dd [(fld, v)])) ad (exo ad C (some dd)) := by
    funext z
    by_cases hz : z = ad
    · subst hz; rw [upd_same, upd_same]
    · rw [upd_ne hz, upd_ne hz]
      by_cases h2 : z = dd
      · subst h2; rw [upd_same, upd_same]
      · rw [upd_ne h2, upd_ne h2, upd_ne hz]
  rw [e]
  have st1 := s1.good.grow (o := exd dd [(fld, v)]) hd1
  have had2 : (upd H1 dd (exd dd [(fld, v)])) ad = none := (upd_ne (Ne.symm hne)).trans had
  have st2 := st1.good.grow (o := exo ad C (some dd)) had2
  exact t _ (.er1 C fld d) _ _ ((s1.trans st1).trans st2) (.er1 upd_same ((upd_ne hne).trans upd_same) (hv.mono (st1.fs.trans st2.fs))) q
def D.errOf : D → Option Addr | .er0 C => some C | .er1 C _ _ => some C | _ => none
theorem Is.errIn {K : PySem.W.Frag} {F H : Hp} {v : V} {d : D} (h : Is K F v d) (s : Same F H) (e : d.errOf = some C) : ∃ a, v = .ref a ∧ ErrIn H a C := by
  cases h <;> simp only [D.errOf, Option.some.injEq, reduceCtorEq] at e
  all_goals subst e
  · rename_i h1; exact ⟨_, rfl, .inl (s _ _ h1)⟩
  · rename_i h1 h2 _; exact ⟨_, rfl, .inr ⟨_, _, s _ _ h1, s _ _ h2⟩⟩
inductive TyIs : D → Value → Prop
  | ref (T : Addr) : TyIs (.ref T) (.ref T)
  | ty (n : String) : TyIs (.ty n) (.type n)
theorem cd_isV {K : PySem.W.Frag} {ds : List D} {P : D → Prop} (q : as2 ds fun x c => ∃ C cv r, x.errOf = some C ∧ TyIs c cv ∧ ExcC K C ∧ PySem.W.kitOne K (.ref C) cv = some r ∧ P (.bl r)) : CD K m (rIsV K) ds P := by
  refine ⟨fun F H vs k g hvs t => ?_⟩
  obtain ⟨v, w, d, e, rfl, rfl, hv, hw, C, cv, r, h1, h2, hC, h3, q⟩ := hvs.as2 q
  obtain ⟨a, rfl, he⟩ := hv.errIn g.sub h1
  refine ⟨a, C, w, cv, r, rfl, he, hC, fun u ru => ?_, h3, t.at g (.bl _) q⟩
  cases h2 <;> cases hw <;> exact ru
/-- isinstance(e, C), e an error -/
theorem dl_isV (dx : DX X P w K mg base N Vn L G S k) (bn : NoMg mg B) (h3 : At G j "isinstance") (h4 : At B j2 "isinstance") (hs : starEach [a, b] X.env = [(false, eval a X.env), (false, eval b X.env)]) (hs2 : starEach [b] X.env = [(false, eval b X.env)])
    (w : WE X m env a fun x => WE X m env b fun c => ∃ C cv r, x.errOf = some C ∧ TyIs c cv ∧ ExcC K C ∧ PySem.W.kitOne K (.ref C) cv = some r ∧ Q (.bl r)) : WE X m env (.Call (.Name "isinstance" p2) [a, b] [] pos) Q := by
  refine dl_cb2 call_isV boot_isinstance dx bn h3 h4 hs hs2 (w.mono fun x h => h.mono fun c h => ?_)
  rw [dx.K_]
  exact cd_isV h
/-- e.f, e an error with one part -/
theorem dl_partV (dx : DX X P w K mg base N Vn L G S k) (hb : attributeBase e fld X.env (eval e X.env) = eval e X.env)
    (h : WE X m env e fun x => ∃ C d, x = .er1 C fld d ∧ XfC K C ∧ PySem.W.findIn K (.ref C) fld = some none ∧ Q d) : WE X m env (.Attribute e fld pos) Q := by
  refine ⟨fun σ H0 F H kk g ev t => tec (pe_xfV pe_can hb) ?_⟩
  refine h.run σ H0 F H _ g ev fun v x F1 H1 s1 hv q => ?_
  obtain ⟨C, d, rfl, hC, hno, q⟩ := q
  cases hv with
  | er1 h1 h2 h3 =>
    rw [dx.K_]
    exact ⟨_, _, C, _, _, rfl, hC, hno, s1.good.sub _ _ h1, s1.good.sub _ _ h2, by simp [List.lookup], (t.after s1).at s1.good h3 q⟩
/-! ### x.append(y.pop(e)) -/
theorem ws_appPop (i j : Nat) (hij : j ≠ i) {p5 p6 p7 : Pos} (hN : X.N[i]? = some x) (hv : Vis X.env.scope x) (hd : (x == ("__debug__" : Str)) = false) (hcd : (x == ("__classdict__" : Str)) = false) (hN2 : X.N[j]? = some y) (hv2 : Vis X.env.scope y) (hd2 : (y == ("__debug__" : Str)) = false) (hcd2 : (y == ("__classdict__" : Str)) = false)
    (hbm : ∀ {to : TE} {t : TA}, PE X (.Name x p2) to → PA X [.Call (.Attribute (.Name y p5) "pop" p6) [e] [] p7] t → PE X (.Call (.Attribute (.Name x p2) "append" p3) [.Call (.Attribute (.Name y p5) "pop" p6) [e] [] p7] [] p4) (tBM X.K "list" rAppend to t))
    (hbm2 : ∀ {to : TE} {t : TA}, PE X (.Name y p5) to → PA X [e] t → PE X (.Call (.Attribute (.Name y p5) "pop" p6) [e] [] p7) (tBM X.K "list" rPopAt to t))
    (hst : starEach [e] X.env = [(false, eval e X.env)]) (hst2 : starEach [.Call (.Attribute (.Name y p5) "pop" p6) [e] [] p7] X.env = [(false, eval (.Call (.Attribute (.Name y p5) "pop" p6) [e] [] p7) X.env)])
    (hs : swapsWith (.Call (.Attribute (.Name x p2) "append" p3) [.Call (.Attribute (.Name y p5) "pop" p6) [e] [] p7] [] p4) none pos.line X.env = pure false)
    {q0 q1 : Addr} {ds es : List D} (hds : env[i]? = some (some (.own q0 (.lst ds)))) (hes : env[j]? = some (some (.own q1 (.lst es)))) (hl : ds.length < 1000000)
    (h : WE X m env e fun d => asInt d fun z => ∃ k u, -(2 ^ 63) ≤ z ∧ z < 2 ^ 63 ∧ seqIndex? z es.length = some k ∧ es[k]? = some u ∧ R.nx ((env.set j (some (.own q1 (.lst (es.eraseIdx k))))).set i (some (.own q0 (.lst (ds ++ [u])))))) :
    WS X m env (.Expr (.Call (.Attribute (.Name x p2) "append" p3) [.Call (.Attribute (.Name y p5) "pop" p6) [e] [] p7] [] p4) pos) R := by
  refine ⟨fun σ F0 H0 Fl F H De W s o => tsc (ps_expr (hbm (pe_var hN hv hd hcd) (pa_cons (hbm2 (pe_var hN2 hv2 hd2 hcd2) (pa_cons pe_can pa_nil hst)) pa_nil hst2)) hs) ?_⟩
  obtain ⟨v, hσ, ho, rfl, hm, hF, h0, hH, xs, rfl, ha⟩ := s.env.at_ i _ hds
  obtain ⟨v2, hσ2, ho2, rfl, hm2, hF2, h02, hH2, ys, rfl, ha2⟩ := s.env.at_ j _ hes
  refine ⟨.ref q0, hσ, .inl ⟨rfl, xs, .of hH⟩, ?_⟩
  refine ⟨.ref q1, hσ2, .inl ⟨rfl, ys, .of hH2⟩, ?_⟩
  refine h.run σ H0 F H _ s.good s.env fun v d F1 H1 s1 hv q => ?_
  obtain ⟨z, rfl, rfl, k, u, hz1, hz2, hk, hu, q⟩ := hv.asInt q
  have hH21 := s1.keep q1 _ hm2 hH2
  obtain ⟨w1, hw1, iu⟩ := (ha2.mono s1.fs).get hu
  refine ⟨q1, ys, z, k, w1, rfl, rfl, hH21, hz1, hz2, by rw [ha2.length]; exact hk, hw1, ?_⟩
  have hF11 := s1.noF hF ⟨_, hH⟩
  have sta1 : Sta X.K m F0 H0 Fl F1 (upd H1 q1 (.lst (ys.eraseIdx k))) σ (env.set j (some (.own q1 (.lst (es.eraseIdx k))))) :=
    ⟨(s.step.trans s1).mut (s1.noF hF2 ⟨_, hH2⟩) hm2 h02, (s.env.step s1).mut hes (.ofL ((ha2.mono s1.fs).eraseIdx k)), s.fl.trans s1.fs⟩
  have hds' : (env.set j (some (.own q1 (.lst (es.eraseIdx k)))))[i]? = some (some (.own q0 (.lst ds))) := by rw [List.getElem?_set_ne hij]; exact hds
  have hne : q0 ≠ q1 := fun z => s.env.apart i j _ (.lst es) q0 (Ne.symm hij) hds (by rw [z]; exact hes)
  refine ⟨q0, xs, w1, rfl, rfl, (upd_ne hne).trans (s1.keep q0 _ hm hH), by rw [ha.length, sizeLine_eq]; omega, ?_⟩
  exact o.nx _ _ F1 _ ⟨sta1.step.mut hF11 hm h0, sta1.env.mut hds' (.ofL ((ha.mono s1.fs).append (.cons iu .nil))), sta1.fl⟩ q
theorem dl_appPop {p5 p6 p7 : Pos} (dx : DX X P w K mg base N Vn L G S k) {j4 : Nat} (h1 : At N i x) (h2 : At Vn j2 x) (h5 : At N j y) (h6 : At Vn j4 y) (hij : j ≠ i)
    (hbm : ∀ {to : TE} {t : TA}, PE X (.Name x p2) to → PA X [.Call (.Attribute (.Name y p5) "pop" p6) [e] [] p7] t → PE X (.Call (.Attribute (.Name x p2) "append" p3) [.Call (.Attribute (.Name y p5) "pop" p6) [e] [] p7] [] p4) (tBM X.K "list" rAppend to t))
    (hbm2 : ∀ {to : TE} {t : TA}, PE X (.Name y p5) to → PA X [e] t → PE X (.Call (.Attribute (.Name y p5) "pop" p6) [e] [] p7) (tBM X.K "list" rPopAt to t))
    (hst : starEach [e] X.env = [(false, eval e X.env)]) (hst2 : starEach [.Call (.Attribute (.Name y p5) "pop" p6) [e] [] p7] X.env = [(false, eval (.Call (.Attribute (.Name y p5) "pop" p6) [e] [] p7) X.env)])
    (hs : swapsWith (.Call (.Attribute (.Name x p2) "append" p3) [.Call (.Attribute (.Name y p5) "pop" p6) [e] [] p7] [] p4) none pos.line X.env = pure false)
    {q0 q1 : Addr} {ds es : List D} (hds : env[i]? = some (some (.own q0 (.lst ds)))) (hes : env[j]? = some (some (.own q1 (.lst es)))) (hl : ds.length < 1000000)
    (h : WE X m env e fun d => asInt d fun z => ∃ k u, -(2 ^ 63) ≤ z ∧ z < 2 ^ 63 ∧ seqIndex? z es.length = some k ∧ es[k]? = some u ∧ R.nx ((env.set j (some (.own q1 (.lst (es.eraseIdx k))))).set i (some (.own q0 (.lst (ds ++ [u])))))) :
    WS X m env (.Expr (.Call (.Attribute (.Name x p2) "append" p3) [.Call (.Attribute (.Name y p5) "pop" p6) [e] [] p7] [] p4) pos) R :=
  let ⟨v, d1, d2⟩ := dx.v h2; let ⟨v', d1', d2'⟩ := dx.v h6; ws_appPop i j hij (dx.n h1) v d1 d2 (dx.n h5) v' d1' d2' hbm hbm2 hst hst2 hs hds hes hl h
end
end DL
set_option Elab.async false
set_option linter.all false
set_option maxRecDepth 100000
set_option autoImplicit false
/-! DL, part 23: list(range(n)); clear. -/
namespace DL
open PySem L2
theorem isAll_rg {K : PySem.W.Frag} {F : Hp} {n : Nat} : IsAll K F (rgV 0 n) ((List.range n).map fun i => D.int (i : Nat)) := by
  have h : rgV 0 (n : Int) = ((List.range n).map fun i => ((i : Nat) : Int)).map V.int := by
    unfold rgV
    rw [List.map_map, show ((n : Int) - 0).toNat = n by omega]
    refine List.map_congr_left fun a _ => ?_
    show V.int _ = V.int _
    rw [Int.zero_add]
  have h2 : ((List.range n).map fun i => D.int (i : Nat)) = ((List.range n).map fun i => ((i : Nat) : Int)).map D.int := by rw [List.map_map]; rfl
  rw [h, h2]
  exact isAll_ints _
section
variable {X : Cx} {P : Program} {w : World} {K : PySem.W.Frag} {mg : Str → Option Value} {base : Heap} {N Vn L G B : List Str} {S : Scope} {k k2 n : Nat} {x y : Str} {i j j2 : Nat}
variable {m : Option Mem} {env : Ev} {a b c e iter elt o tg : Expr} {es : List Expr} {pos p2 p3 p4 pr : Pos} {R : DEnds} {ps : List Str} {body : List Stmt}
theorem dl_listRg {Q : List D → Prop} (dx : DX X P w K mg base N Vn L G S k) (bn : NoMg mg B) (h1 : At G j "list") (h2 : At B j2 "list") {j3 j4 : Nat} (h3 : At G j3 "range") (h4 : At B j4 "range") (hst : starEach [a] X.env = [(false, eval a X.env)])
    (hst2 : starEach [.Call (.Name "range" p2) [a] [] pr] X.env = [(false, eval (.Call (.Name "range" p2) [a] [] pr) X.env)])
    (h : WE X m env a fun d => asInt d fun i => (0 ≤ i ∧ i ≤ 1000000) ∧ Q ((List.range i.toNat).map fun k => D.int (k : Nat))) : WL X m env (.Call (.Name "list" p3) [.Call (.Name "range" p2) [a] [] pr] [] pos) Q := by
  obtain ⟨g1, g2, g3⟩ := dx.g h1
  obtain ⟨r1, r2, r3⟩ := dx.g h3
  refine ⟨fun σ H0 F H kk g ev t => tec (pe_listRg dx.calm g1 (dx.b bn h2) (prg_1 r1 (dx.b bn h4) pe_can hst) hst2) ?_⟩
  refine h.run σ H0 F H _ g ev fun v d F1 H1 s1 hv q => ?_
  obtain ⟨z, rfl, rfl, ⟨hz0, hz1⟩, q⟩ := hv.asInt q
  obtain ⟨n, rfl⟩ := Int.eq_ofNat_of_zero_le hz0
  refine ⟨n, rfl, .of_le (by decide) (by omega) (by decide) (by omega), fun l hl => ?_⟩
  exact (t.after s1 g).laid s1.good hl isAll_rg (by rw [Int.toNat_natCast] at q; exact q)
/-- x.clear(), x a list of the frame's own -/
theorem ws_clear (i : Nat) (hN : X.N[i]? = some x) (hv : Vis X.env.scope x) (hd : (x == ("__debug__" : Str)) = false) (hcd : (x == ("__classdict__" : Str)) = false)
    (hbm : ∀ {to : TE} {t : TA}, PE X (.Name x p2) to → PA X [] t → PE X (.Call (.Attribute (.Name x p2) "clear" p3) [] [] p4) (tBM X.K "list" rClear to t))
    (hs : swapsWith (.Call (.Attribute (.Name x p2) "clear" p3) [] [] p4) none pos.line X.env = pure false)
    {q0 : Addr} {ds : List D} (hds : env[i]? = some (some (.own q0 (.lst ds)))) (h : R.nx (env.set i (some (.own q0 (.lst []))))) : WS X m env (.Expr (.Call (.Attribute (.Name x p2) "clear" p3) [] [] p4) pos) R := by
  refine ⟨fun σ F0 H0 Fl F H De W s o => tsc (ps_expr (hbm (pe_var hN hv hd hcd) pa_nil) hs) ?_⟩
  obtain ⟨v, hσ, ho, rfl, hm, hF, h0, hH, xs, rfl, ha⟩ := s.env.at_ i _ hds
  refine ⟨.ref q0, hσ, .inl ⟨rfl, xs, .of hH⟩, ?_⟩
  refine ⟨q0, xs, rfl, rfl, hH, ?_⟩
  exact o.nx _ _ F _ ⟨s.step.mut hF hm h0, s.env.mut hds (.ofL .nil), s.fl⟩ h
end
end DL
set_option Elab.async false
set_option linter.all false
set_option maxRecDepth 100000
set_option autoImplicit false
set_option maxHeartbeats 1000000
/-! DL, part 24: trees of objects that are the frame's own: made, read, changed, returned. -/
namespace DL
open PySem L2
section
variable {K : PySem.W.Frag} {m : Option Mem} {F F' H H' H0 : Hp} {Fr : Addr → Prop} {v : V} {d : D} {vs : List V} {ds xs ys : List D}
/-! ### a node changes -/
mutual
def D.put (q : Addr) (ys : List D) : D → D
  | .own p xs => if p = q then .own p ys else .own p (D.putAll q ys xs)
  | .owd p ks xs => .owd p ks (D.putAll q ys xs)
  | .owt xs => .owt (D.putAll q ys xs)
  | d => d
def D.putAll (q : Addr) (ys : List D) : List D → List D
  | [] => []
  | d :: ds => d.put q ys :: D.putAll q ys ds
end
theorem Is.put {q : Addr} (h : Is K F v d) : d.put q ys = d := by cases h <;> rfl
mutual
theorem Own.put {q : Addr} {us ws : List V} (hq : H q = some (.lst us)) (hy : IsAll K F ws ys) : ∀ {v : V} {d : D}, Own K Fr F H v d → Own K Fr F (upd H q (.lst ws)) v (d.put q ys)
  | _, _, .is h => by rw [h.put]; exact .is h
  | _, _, .own (p := p) h1 h2 h3 => by
    show Own _ _ _ _ _ (if p = q then _ else _)
    by_cases e : p = q
    · subst e
      rw [if_pos rfl]
      exact .own h1 upd_same (OwnAll.ofIs hy).1
    · rw [if_neg e]
      exact .own h1 ((upd_ne e).trans h2) (OwnAll.put hq hy h3)
  | _, _, .owd h1 h2 h3 h4 => .owd h1 ((upd_ne (fun z => by rw [z, hq] at h2; cases h2)).trans h2) h3 (OwnAll.put hq hy h4)
  | _, _, .owt h1 h2 => .owt h1 (OwnAll.put hq hy h2)
theorem OwnAll.put {q : Addr} {us ws : List V} (hq : H q = some (.lst us)) (hy : IsAll K F ws ys) : ∀ {vs : List V} {ds : List D}, OwnAll K Fr F H vs ds → OwnAll K Fr F (upd H q (.lst ws)) vs (D.putAll q ys ds)
  | _, _, .nil => .nil
  | _, _, .cons h t => .cons (Own.put hq hy h) (OwnAll.put hq hy t)
end
mutual
theorem put_ads {q : Addr} (hy : D.adsAll ys = []) : ∀ d : D, (d.put q ys).ads.Sublist d.ads
  | .own p xs => by
    show (if p = q then D.own p ys else .own p (D.putAll q ys xs)).ads.Sublist (p :: D.adsAll xs)
    split
    · show (p :: D.adsAll ys).Sublist _
      rw [hy]
      exact .cons_cons p (List.nil_sublist _)
    · exact .cons_cons p (putAll_ads hy xs)
  | .owd p ks xs => .cons_cons p (putAll_ads hy xs)
  | .owt xs => putAll_ads hy xs
  | .non | .bl _ | .int _ | .str _ | .ty _ | .ref _ | .lst _ | .tup _ | .ins _ _ | .exc _ _ _ _ | .nam _ _ | .er0 _ | .er1 _ _ _ | .dic _ _ => .refl _
theorem putAll_ads {q : Addr} (hy : D.adsAll ys = []) : ∀ ds : List D, (D.adsAll (D.putAll q ys ds)).Sublist (D.adsAll ds)
  | [] => .refl _
  | d :: ds => (put_ads hy d).append (putAll_ads hy ds)
end
/-- a list of the tree, at q -/
inductive Has (q : Addr) (es : List D) : D → Prop
  | here : Has q es (.own q es)
  | own {p : Addr} {xs : List D} {d : D} : d ∈ xs → Has q es d → Has q es (.own p xs)
  | owd {p : Addr} {ks : List Key} {xs : List D} {d : D} : d ∈ xs → Has q es d → Has q es (.owd p ks xs)
  | owt {xs : List D} {d : D} : d ∈ xs → Has q es d → Has q es (.owt xs)
theorem OwnAll.mem : ∀ {vs : List V} {ds : List D}, OwnAll K Fr F H vs ds → ∀ d ∈ ds, ∃ v, Own K Fr F H v d
  | _, _, .nil, _, hd => nomatch hd
  | _, _, .cons h t, d, hd => by
    rcases List.mem_cons.mp hd with rfl | hd
    · exact ⟨_, h⟩
    · exact OwnAll.mem t d hd
theorem Has.at {q : Addr} {es : List D} (h : Has q es d) : ∀ {v : V}, Own K Fr F H v d → Fr q ∧ ∃ us, H q = some (.lst us) ∧ OwnAll K Fr F H us es := by
  induction h with
  | here =>
    intro v ho
    cases ho with
    | is h => cases h
    | own h1 h2 h3 => exact ⟨h1, _, h2, h3⟩
  | own hd _ ih =>
    intro v ho
    cases ho with
    | is h => cases h
    | own h1 h2 h3 => obtain ⟨v, hv⟩ := h3.mem _ hd; exact ih hv
  | owd hd _ ih =>
    intro v ho
    cases ho with
    | is h => cases h
    | owd h1 h2 h3 h4 => obtain ⟨v, hv⟩ := h4.mem _ hd; exact ih hv
  | owt hd _ ih =>
    intro v ho
    cases ho with
    | is h => cases h
    | owt h1 h2 => obtain ⟨v, hv⟩ := h2.mem _ hd; exact ih hv
theorem adsAll_mem {d : D} {a : Addr} (ha : a ∈ d.ads) : ∀ {ds : List D}, d ∈ ds → a ∈ D.adsAll ds
  | _ :: _, h => by
    rcases List.mem_cons.mp h with rfl | h
    · exact List.mem_append_left _ ha
    · exact List.mem_append_right _ (adsAll_mem ha h)
theorem Has.mem {q : Addr} {es : List D} (h : Has q es d) : q ∈ d.ads := by
  induction h with
  | here => exact List.mem_cons_self ..
  | own hd _ ih => exact List.mem_cons_of_mem _ (adsAll_mem ih hd)
  | owd hd _ ih => exact List.mem_cons_of_mem _ (adsAll_mem ih hd)
  | owt hd _ ih => exact adsAll_mem ih hd
/-! ### a tree by its names, as data that stays -/
mutual
def D.nm : D → D
  | .own p xs => .nam p (D.nmAll xs)
  | .owd _ ks xs => .dic ks (D.nmAll xs)
  | .owt xs => .tup (D.nmAll xs)
  | d => d
def D.nmAll : List D → List D
  | [] => []
  | d :: ds => d.nm :: D.nmAll ds
end
theorem Is.nm (h : Is K F v d) : d.nm = d := by cases h <;> rfl
mutual
theorem Own.nam (s : Same F F') : ∀ {v : V} {d : D}, Own K Fr F H v d → (∀ p ∈ d.ads, ∀ o, H p = some o → F' p = some o) → Is K F' v d.nm
  | _, _, .is h, _ => by rw [h.nm]; exact h.mono s
  | _, _, .own h1 h2 h3, k => .nam (k _ (List.mem_cons_self ..) _ h2) (OwnAll.nam s h3 fun p hp => k p (List.mem_cons_of_mem _ hp))
  | _, _, .owd h1 h2 h3 h4, k => .dic (k _ (List.mem_cons_self ..) _ h2) h3 (OwnAll.nam s h4 fun p hp => k p (List.mem_cons_of_mem _ hp))
  | _, _, .owt h1 h2, k => .tup (s _ _ h1) (OwnAll.nam s h2 k)
theorem OwnAll.nam (s : Same F F') : ∀ {vs : List V} {ds : List D}, OwnAll K Fr F H vs ds → (∀ p ∈ D.adsAll ds, ∀ o, H p = some o → F' p = some o) → IsAll K F' vs (D.nmAll ds)
  | _, _, .nil, _ => .nil
  | _, _, .cons h t, k => .cons (Own.nam s h fun p hp => k p (List.mem_append_left _ hp)) (OwnAll.nam s t fun p hp => k p (List.mem_append_right _ hp))
end
theorem nmAll_get : ∀ {ds : List D} {i : Nat}, (D.nmAll ds)[i]? = (ds[i]?).map D.nm
  | [], i => by simp [D.nmAll]
  | d :: ds, 0 => rfl
  | d :: ds, i + 1 => by
    show (D.nmAll ds)[i]? = _
    rw [nmAll_get]; rfl
theorem nmAll_len : ∀ {ds : List D}, (D.nmAll ds).length = ds.length
  | [] => rfl
  | _ :: ds => congrArg (· + 1) (nmAll_len (ds := ds))
theorem erAll_get : ∀ {ds : List D} {i : Nat}, (D.erAll ds)[i]? = (ds[i]?).map D.er
  | [], i => by simp [D.erAll]
  | d :: ds, 0 => rfl
  | d :: ds, i + 1 => by
    show (D.erAll ds)[i]? = _
    rw [erAll_get]; rfl
theorem erAll_len : ∀ {ds : List D}, (D.erAll ds).length = ds.length
  | [] => rfl
  | _ :: ds => congrArg (· + 1) (erAll_len (ds := ds))
/-! ### lending a tree -/
/-- F with the objects at these addresses -/
def withAt (F H : Hp) (l : List Addr) : Hp := fun a => match F a with | some o => some o | none => if a ∈ l then H a else none
theorem withAt_l {l : List Addr} : Same F (withAt F H l) := fun a o e => by unfold withAt; rw [e]
theorem withAt_s {l : List Addr} (s : Same F H) : Same (withAt F H l) H := fun a o e => by
  unfold withAt at e
  cases h : F a with
  | some u => rw [h] at e; cases e; exact s a _ h
  | none =>
    rw [h] at e
    simp only at e
    split at e
    · exact e
    · cases e
theorem withAt_n {l : List Addr} {a : Addr} (h : F a = none) (hl : a ∉ l) : withAt F H l a = none := by
  unfold withAt
  rw [h]
  exact if_neg hl
theorem withAt_i {l : List Addr} {a : Addr} {o : HO} (h : F a = none) (hl : a ∈ l) (e : H a = some o) : withAt F H l a = some o := by
  unfold withAt
  rw [h]
  exact (if_pos hl).trans e
theorem Good.withAt {l : List Addr} (g : Good K m F H) (hl : ∀ a ∈ l, ¬ Touch m a) : Good K m (withAt F H l) H := ⟨withAt_s g.sub, fun c hc => by
  obtain ⟨h1, h2⟩ := g.bag c hc
  subst hc
  exact ⟨⟨withAt_n h1.1 fun z => hl _ z (.b c), withAt_n h1.2 fun z => hl _ z (.l c)⟩, h2⟩⟩
/-- read under what was lent, then as before -/
theorem Step.backM {F1 : Hp} (g : Good K m F H) (s : Step K m F1 H F' H') : Step K m F H F H' := by
  refine ⟨Same.refl _, ⟨fun a o h => s.keep a o (fun z => ?_) (g.sub a o h), fun c hc => ?_⟩, fun a h1 h2 => absurd h1 h2, s.keep⟩
  · cases z with
    | b c => rw [(g.bag c rfl).1.1] at h; cases h
    | l c => rw [(g.bag c rfl).1.2] at h; cases h
  · exact ⟨(g.bag c hc).1, (s.good.bag c hc).2⟩
theorem Envs.lendAt {σ : L2.St} {env : Ev} {i : Nat} {e : D} (g : Good K m F H) (h : Envs K m H0 F H σ env) (he : env[i]? = some (some (.prv d))) (hi : ∀ v, Own K (Fro m H0 F) F H v d → Is K (withAt F H d.ads) v e) :
    Good K m (withAt F H d.ads) H ∧ Envs K m H0 (withAt F H d.ads) H σ (env.set i (some (.frz e))) := by
  obtain ⟨v, hσ, ho, hn⟩ := h.at_ i _ he
  have hfr : ∀ a ∈ d.ads, Fro m H0 F a := fun a ha => (ho.at a ha).1
  refine ⟨g.withAt fun a ha => (hfr a ha).1, fun j t ej => ?_, by rw [List.length_set]; exact h.len, fun j k ds es p hjk e1 e2 => ?_, h.apt.set fun s e => by cases e; rfl⟩
  · rcases set_at ej with ⟨rfl, hl, ej⟩ | ⟨hij, ej⟩
    · cases ej
      exact ⟨v, hσ, hi v ho⟩
    · obtain ⟨u, h1, h2⟩ := h.at_ j t ej
      refine ⟨u, h1, ?_⟩
      cases t with
      | frz d => exact Is.mono withAt_l h2
      | lent d =>
        rcases h2 with h2 | h2
        · exact .inl (Is.mono withAt_l h2)
        · exact .inr h2
      | prv t =>
        refine ⟨h2.1.move withAt_l fun q hq o hf ho => ⟨⟨hf.1, withAt_n hf.2.1 ?_, hf.2.2⟩, ho⟩, h2.2⟩
        exact fun z => h.apt i j _ _ q hij he ej z hq
      | own p c =>
        obtain ⟨ho', e1, hm, e3, e4, e5, e6⟩ := h2
        exact ⟨ho', e1, hm, withAt_n e3 fun z => h.apt i j _ _ p hij he ej z (List.mem_cons_self ..), e4, e5, e6.mono withAt_l⟩
  · rcases set_at e1 with ⟨_, _, e1⟩ | ⟨hj, e1⟩
    · cases e1
    rcases set_at e2 with ⟨_, _, e2⟩ | ⟨hk, e2⟩
    · cases e2
    exact h.apart j k ds es p hjk e1 e2
theorem own_er {Fr : Addr → Prop} (hf : ∀ a ∈ d.ads, F a = none) (h : Own K Fr F H v d) : Is K (withAt F H d.ads) v d.er := h.frz withAt_l fun p hp o ho => withAt_i (hf p hp) hp ho
theorem own_nm {Fr : Addr → Prop} (hf : ∀ a ∈ d.ads, F a = none) (h : Own K Fr F H v d) : Is K (withAt F H d.ads) v d.nm := h.nam withAt_l fun p hp o ho => withAt_i (hf p hp) hp ho
end
section
variable {X : Cx} {m : Option Mem} {env : Ev} {e : Expr} {d : D}
/-- an expression that reads the tree: what comes of it is flat -/
theorem we_prv (i : Nat) {P : D → Prop} (he : env[i]? = some (some (.prv d))) (hf : ∀ d, P d → ∃ w, DL.flat d = some w) (h : WE X m (env.set i (some (.frz d.er))) e P) : WE X m env e P := by
  refine ⟨fun σ H0 F H k g ev t => ?_⟩
  obtain ⟨g', ev'⟩ := ev.lendAt g he fun v ho => own_er (fun a ha => (ho.at a ha).1.2.1) ho
  refine h.run σ H0 _ H k g' ev' fun v d F' H' s hv hP => ?_
  obtain ⟨w, hw⟩ := hf d hP
  obtain rfl := hv.flat hw
  exact t _ d F H' (s.backM g) (is_flat hw) hP
theorem wt_prv (i : Nat) {P : Bool → Prop} (he : env[i]? = some (some (.prv d))) (h : WT X m (env.set i (some (.frz d.er))) e P) : WT X m env e P := by
  refine ⟨fun σ H0 F H k g ev t => ?_⟩
  obtain ⟨g', ev'⟩ := ev.lendAt g he fun v ho => own_er (fun a ha => (ho.at a ha).1.2.1) ho
  exact h.run σ H0 _ H k g' ev' fun b F' H' s hP => t b F H' (s.backM g) hP
theorem wl_prv (i : Nat) {P : List D → Prop} (he : env[i]? = some (some (.prv d))) (hf : ∀ es, P es → Flats es) (h : WL X m (env.set i (some (.frz d.er))) e P) : WL X m env e P := by
  refine ⟨fun σ H0 F H k g ev t => ?_⟩
  obtain ⟨g', ev'⟩ := ev.lendAt g he fun v ho => own_er (fun a ha => (ho.at a ha).1.2.1) ho
  refine h.run σ H0 _ H k g' ev' fun p xs ds F' H' hp hF s hH ha hP => ?_
  exact t p xs ds F H' hp (g.noF hp) (s.backM g) hH (ha.flats (hf ds hP)) hP
/-- the address of one of its lists -/
theorem we_ref (i : Nat) {P : D → Prop} (he : env[i]? = some (some (.prv d))) (h : WE X m (env.set i (some (.frz d.nm))) e fun x => ∃ q es, x = .nam q es ∧ P (.ref q)) : WE X m env e P := by
  refine ⟨fun σ H0 F H k g ev t => ?_⟩
  obtain ⟨g', ev'⟩ := ev.lendAt g he fun v ho => own_nm (fun a ha => (ho.at a ha).1.2.1) ho
  refine h.run σ H0 _ H k g' ev' fun v x F' H' s hv hP => ?_
  obtain ⟨q, es, rfl, hP⟩ := hP
  cases hv with
  | nam h1 h2 => exact t _ (.ref q) F H' (s.backM g) (.ref q) hP
/-! ### an expression that gives a tree that is new -/
def ThenR (K : PySem.W.Frag) (m : Option Mem) (F H : Hp) (P : D → Prop) (k : VK) : Prop := ∀ v d F' H', Step K m F H F' H' → Own K (fun a => H a = none ∧ F' a = none) F' H' v d → d.ads.Nodup → P d → k v H'
structure WR (X : Cx) (m : Option Mem) (env : Ev) (e : Expr) (P : D → Prop) : Prop where
  run : ∀ σ H0 F H k, Good X.K m F H → Envs X.K m H0 F H σ env → ThenR X.K m F H P k → TEc X e σ H k
theorem WR.mono {P P' : D → Prop} (h : WR X m env e P) (i : ∀ d, P d → P' d) : WR X m env e P' := ⟨fun σ H0 F H k g ev t => h.run σ H0 F H k g ev fun v d F' H' s hv hn hP => t v d F' H' s hv hn (i d hP)⟩
theorem WE.wr {P : D → Prop} (h : WE X m env e P) : WR X m env e P := ⟨fun σ H0 F H k g ev t => h.run σ H0 F H k g ev fun v d F' H' s hv hP => t v d F' H' s (.is hv) (by rw [hv.noAds.1]; exact List.Pairwise.nil) hP⟩
theorem WL.wr {P : D → Prop} (h : WL X m env e fun ds => ∀ p, P (.own p ds)) : WR X m env e P := ⟨fun σ H0 F H k g ev t => h.run σ H0 F H k g ev fun p xs ds F' H' hp hF s hH ha hP => by
  obtain ⟨h1, h2, _⟩ := OwnAll.ofIs (Fr := fun a => H a = none ∧ F' a = none) (H := H') ha
  refine t _ (.own p ds) F' H' s (.own ⟨hp, hF⟩ hH h1) ?_ (hP p)
  show (p :: D.adsAll ds).Nodup
  rw [h2]
  exact List.pairwise_singleton _ _⟩
theorem ThenR.after {K : PySem.W.Frag} {F H F' H' : Hp} {P : D → Prop} {k : VK} (h : ThenR K m F H P k) (g : Good K m F H) (s : Step K m F H F' H') : ThenR K m F' H' P k := fun v d F2 H2 t hv hn hP => h v d F2 H2 (s.trans t) (hv.move (Same.refl _) fun p _ o hf ho => ⟨⟨fresh_before s g hf.1, hf.2⟩, ho⟩) hn hP
theorem Envs.prvR {K : PySem.W.Frag} {F H F' H' H0 : Hp} {σ : L2.St} {i : Nat} {v : V} (g : Good K m F H) (h : Envs K m H0 F H σ env) (s : Step K m F H F' H') (ho : Own K (fun a => H a = none ∧ F' a = none) F' H' v d) (hn : d.ads.Nodup) (h0 : ∀ a, H a = none → H0 a = none) :
    Envs K m H0 F' H' (σ.set i (some v)) (env.set i (some (.prv d))) := by
  have old : ∀ (j : Nat) (t : Slot) (a : Addr), env[j]? = some (some t) → a ∈ t.ads → H a ≠ none := fun j t a ej ha => by
    obtain ⟨u, _, h2⟩ := h.at_ j t ej
    cases t with
    | prv e => obtain ⟨_, o, ho⟩ := h2.1.at a ha; rw [ho]; exact fun z => nomatch z
    | own p c =>
      obtain ⟨o', _, _, _, _, e5, _⟩ := h2
      rw [List.mem_singleton.mp ha, e5]; exact fun z => nomatch z
    | frz _ => cases ha
    | lent _ => cases ha
  have h' := h.step s
  refine ⟨fun j t e => ?_, by rw [List.length_set, List.length_set]; exact h.len, fun j k es fs q hjk e1 e2 => ?_, h.apt.put (fun j t a hj ej ha z => ?_) fun j t a hj ej ha z => ?_⟩
  · rcases set_at e with ⟨rfl, hl, e⟩ | ⟨hij, e⟩
    · cases e
      exact ⟨v, List.getElem?_set_self (by rw [h.len]; exact hl), ho.move (Same.refl _) fun p _ o hf ho => ⟨⟨g.notm hf.1, hf.2, h0 p hf.1⟩, ho⟩, hn⟩
    · rw [List.getElem?_set_ne hij]
      exact h'.at_ j t e
  · rcases set_at e1 with ⟨_, _, e⟩ | ⟨hj, e1⟩
    · cases e
    rcases set_at e2 with ⟨_, _, e⟩ | ⟨hk, e2⟩
    · cases e
    exact h.apart j k es fs q hjk e1 e2
  · refine old j t a ej ?_ (ho.at a z).1.1
    cases t <;> first | exact ha | cases ha
  · exact old j t a ej z (ho.at a ha).1.1
variable {R : DEnds} {pos p2 p3 p4 : Pos} {x : Str} {rest : List Stmt} {es : List Expr}
theorem ws_setR (i : Nat) (hN : X.N.Nodup) (hi : X.N[i]? = some x) (hx : Loc X.env.scope x) (hf : X.fn x = true ∨ X.env.scope.names.lookup x = some .local) (hs : swapsWith e (some (.Name x p2)) pos.line X.env = pure false)
    (h : WR X m env e fun d => R.nx (env.set i (some (.prv d)))) : WS X m env (.Assign [.Name x p2] e pos) R := by
  refine ⟨fun σ F0 H0 Fl F H De W s o => tsc (ps_set hN hi hx pe_can hs hf) ?_⟩
  refine h.run σ H0 F H _ s.good s.env fun v d F1 H1 s1 hv hn q => ?_
  exact o.nx _ _ F1 H1 ⟨s.step.trans s1, s.env.prvR s.good s1 hv hn fun a ha => s.step.none0 ha, s.fl.trans s1.fs⟩ q
theorem ws_retR (h : WR X m env e fun d => R.ro d env) : WS X m env (.Return (some e) pos) R := by
  refine ⟨fun σ F0 H0 Fl F H De W s o => tsc (ps_ret pe_can) ?_⟩
  refine h.run σ H0 F H _ s.good s.env fun v d F1 H1 s1 hv hn q => ?_
  exact o.ro v d σ env F1 H1 (s.after s1) (hv.move (Same.refl _) fun p _ o hf ho => ⟨⟨s.good.notm hf.1, hf.2, s.step.none0 hf.1⟩, ho⟩) hn q
/-- return of a list of the frame's own -/
theorem ws_retOwnR (i : Nat) {q0 : Addr} {ds : List D} (hN : X.N[i]? = some x) (hv : Vis X.env.scope x) (hd : (x == ("__debug__" : Str)) = false) (hcd : (x == ("__classdict__" : Str)) = false) (he : env[i]? = some (some (.own q0 (.lst ds)))) (h : R.ro (.own q0 ds) env) : WS X m env (.Return (some (.Name x p2)) pos) R := by
  refine ⟨fun σ F0 H0 Fl F H De W s o => tsc (ps_ret (pe_var hN hv hd hcd)) ?_⟩
  obtain ⟨v, hσ, ho, rfl, hm, hF, h0, hH, xs, rfl, ha⟩ := s.env.at_ i _ he
  obtain ⟨h1, h2, _⟩ := OwnAll.ofIs (Fr := Fro m H0 F) (H := H) ha
  refine ⟨.ref q0, hσ, ?_⟩
  refine o.ro _ (.own q0 ds) σ env F H s (.own ⟨hm, hF, h0⟩ hH h1) ?_ h
  show (q0 :: D.adsAll ds).Nodup
  rw [h2]
  exact List.pairwise_singleton _ _
theorem ws_retPrv (i : Nat) (hN : X.N[i]? = some x) (hv : Vis X.env.scope x) (hd : (x == ("__debug__" : Str)) = false) (hcd : (x == ("__classdict__" : Str)) = false) (he : env[i]? = some (some (.prv d))) (h : R.ro d env) : WS X m env (.Return (some (.Name x p2)) pos) R := by
  refine ⟨fun σ F0 H0 Fl F H De W s o => tsc (ps_ret (pe_var hN hv hd hcd)) ?_⟩
  obtain ⟨v, hσ, ho, hn⟩ := s.env.at_ i _ he
  exact ⟨v, hσ, o.ro v d σ env F H s ho hn h⟩
/-- a tree that is one list of flat data: a list of the frame's own -/
theorem own_flats {K : PySem.W.Frag} {F H : Hp} {Fr : Addr → Prop} : ∀ {vs : List V} {ds : List D}, OwnAll K Fr F H vs ds → Flats ds → IsAll K F vs ds
  | _, _, .nil, _ => .nil
  | _, _, .cons h t, hf => by
    refine .cons ?_ (own_flats t fun d hd => hf d (List.mem_cons_of_mem _ hd))
    obtain ⟨w, hw⟩ := hf _ (List.mem_cons_self ..)
    cases h with
    | is h => exact h
    | own _ _ _ => cases hw
    | owd _ _ _ _ => cases hw
    | owt _ _ => cases hw
theorem Envs.toOwn {K : PySem.W.Frag} {F H H0 : Hp} {σ : L2.St} {i : Nat} {p : Addr} {ds : List D} (h : Envs K m H0 F H σ env) (he : env[i]? = some (some (.prv (.own p ds)))) (hf : Flats ds) : Envs K m H0 F H σ (env.set i (some (.own p (.lst ds)))) := by
  obtain ⟨v, hσ, ho, hn⟩ := h.at_ i _ he
  have mem : p ∈ (D.own p ds).ads := List.mem_cons_self ..
  refine ⟨fun j t e => ?_, by rw [List.length_set]; exact h.len, fun j k es fs q hjk e1 e2 => ?_, h.apt.put (fun j t a hj ej ha z => ?_) fun j t a hj ej ha => nomatch ha⟩
  · rcases set_at e with ⟨rfl, hl, e⟩ | ⟨hij, e⟩
    · cases e
      cases ho with
      | is h => cases h
      | own h1 h2 h3 => exact ⟨_, hσ, _, rfl, h1.1, h1.2.1, h1.2.2, h2, .ofL (own_flats h3 hf)⟩
    · exact h.at_ j t e
  · rcases set_at e1 with ⟨rfl, _, e⟩ | ⟨hj, e1⟩
    · cases e
      rcases set_at e2 with ⟨z, _, _⟩ | ⟨hk, e2⟩
      · exact hjk z
      · exact h.apt i k _ _ p hjk he e2 mem (List.mem_cons_self ..)
    rcases set_at e2 with ⟨rfl, _, e⟩ | ⟨hk, e2⟩
    · cases e
      exact h.apt i j _ _ p (Ne.symm hjk) he e1 mem (List.mem_cons_self ..)
    exact h.apart j k es fs q hjk e1 e2
  · rw [List.mem_singleton.mp z] at ha
    refine h.apt j i t _ p hj ej he ha mem
theorem wss_toOwn (i : Nat) {p : Addr} {ds : List D} (he : env[i]? = some (some (.prv (.own p ds)))) (hf : Flats ds) (h : WSs X m (env.set i (some (.own p (.lst ds)))) rest R) : WSs X m env rest R :=
  ⟨fun σ F0 H0 Fl F H De W s o => h.run σ F0 H0 Fl F H De W ⟨s.step, s.env.toOwn he hf, s.fl⟩ o⟩
end
end DL
set_option Elab.async false
set_option linter.all false
set_option maxRecDepth 100000
set_option autoImplicit false
set_option maxHeartbeats 1000000
/-! DL, part 25: nodes that change; displays and comprehensions of new trees; promises of new trees. -/
namespace DL
open PySem L2
theorem adsAll_app {xs ys : List D} : D.adsAll (xs ++ ys) = D.adsAll xs ++ D.adsAll ys := by
  induction xs with
  | nil => rfl
  | cons d ds ih => show d.ads ++ D.adsAll (ds ++ ys) = (d.ads ++ D.adsAll ds) ++ _; rw [ih, List.append_assoc]
theorem flats_ads : ∀ {ds : List D}, Flats ds → D.adsAll ds = []
  | [], _ => rfl
  | d :: ds, h => by
    obtain ⟨w, hw⟩ := h d (List.mem_cons_self ..)
    show d.ads ++ D.adsAll ds = []
    rw [flats_ads fun e he => h e (List.mem_cons_of_mem _ he)]
    cases d <;> first | rfl | cases hw
section
variable {X : Cx} {m : Option Mem} {env : Ev} {a b c e o iter elt tg : Expr} {d : D} {R : DEnds} {pos p2 p3 p4 : Pos} {x : Str} {rest : List Stmt} {es : List Expr}
/-! ### a list of the tree changes -/
theorem Envs.putAt {K : PySem.W.Frag} {F H H0 : Hp} {σ : L2.St} {i : Nat} {q : Addr} {us ws : List V} {ys : List D} (h : Envs K m H0 F H σ env) (he : env[i]? = some (some (.prv d))) (hq : H q = some (.lst us)) (hm : q ∈ d.ads) (hy : IsAll K F ws ys) :
    Envs K m H0 F (upd H q (.lst ws)) σ (env.set i (some (.prv (d.put q ys)))) := by
  obtain ⟨v, hσ, ho, hn⟩ := h.at_ i _ he
  have hfr := (ho.at q hm).1
  have hy2 : D.adsAll ys = [] := (OwnAll.ofIs (Fr := Fro m H0 F) (H := H) hy).2.1
  have hsub := put_ads (q := q) hy2 d
  have nq : ∀ (j : Nat) (t : Slot), j ≠ i → env[j]? = some (some t) → q ∉ t.ads := fun j t hj ej => h.apt i j _ t q (Ne.symm hj) he ej hm
  refine ⟨fun j t e => ?_, by rw [List.length_set]; exact h.len, fun j k es fs r hjk e1 e2 => ?_, h.apt.put (fun j t a hj ej ha z => h.apt j i t _ a hj ej he ha (hsub.subset z)) fun j t a hj ej ha => h.apt i j _ t a (Ne.symm hj) he ej (hsub.subset ha)⟩
  · rcases set_at e with ⟨rfl, hl, e⟩ | ⟨hij, e⟩
    · cases e
      exact ⟨v, hσ, Own.put hq hy ho, hn.sublist hsub⟩
    · obtain ⟨u, h1, h2⟩ := h.at_ j t e
      refine ⟨u, h1, ?_⟩
      cases t with
      | frz d => exact h2
      | lent d =>
        rcases h2 with h2 | ⟨R, hR, h2⟩
        · exact .inl h2
        · refine .inr ⟨R, fun a o ea => ?_, h2⟩
          obtain ⟨h3, h4, o', h5⟩ := hR a o ea
          exact ⟨(upd_ne fun z => by rw [z, hfr.2.2] at h5; cases h5).trans h3, h4, o', h5⟩
      | prv t => exact ⟨h2.1.move (Same.refl _) fun p hp o hf ho => ⟨hf, (upd_ne fun (z : p = q) => nq j _ (Ne.symm hij) e (by rw [← z]; exact hp)).trans ho⟩, h2.2⟩
      | own p c =>
        obtain ⟨ho', e1, e2, e3, e4, e5, e6⟩ := h2
        exact ⟨ho', e1, e2, e3, e4, (upd_ne fun (z : p = q) => nq j _ (Ne.symm hij) e (by rw [← z]; exact List.mem_cons_self ..)).trans e5, e6⟩
  · rcases set_at e1 with ⟨_, _, e⟩ | ⟨hj, e1⟩
    · cases e
    rcases set_at e2 with ⟨_, _, e⟩ | ⟨hk, e2⟩
    · cases e
    exact h.apart j k es fs r hjk e1 e2
theorem Sta.putAt {F0 H0 Fl F H : Hp} {σ : L2.St} {i : Nat} {q : Addr} {us ws : List V} {ys : List D} (s : Sta X.K m F0 H0 Fl F H σ env) (he : env[i]? = some (some (.prv d))) (hq : H q = some (.lst us)) (hm : q ∈ d.ads) (hy : IsAll X.K F ws ys) :
    Sta X.K m F0 H0 Fl F (upd H q (.lst ws)) σ (env.set i (some (.prv (d.put q ys)))) := by
  obtain ⟨v, hσ, ho, hn⟩ := s.env.at_ i _ he
  obtain ⟨h1, h2, h3⟩ := (ho.at q hm).1
  exact ⟨s.step.mut h2 h1 h3, s.env.putAt he hq hm hy, s.fl⟩
/-- o.append(e), o one of the tree's lists -/
theorem ws_appAt (i : Nat) (hbm : ∀ {to : TE} {t : TA}, PE X o to → PA X [e] t → PE X (.Call (.Attribute o "append" p3) [e] [] p4) (tBM X.K "list" rAppend to t)) (hst : starEach [e] X.env = [(false, eval e X.env)])
    (hs : swapsWith (.Call (.Attribute o "append" p3) [e] [] p4) none pos.line X.env = pure false) (he : env[i]? = some (some (.prv d)))
    (h : WE X m env o fun x => ∃ q es, x = .ref q ∧ Has q es d ∧ Flats es ∧ es.length < 1000000 ∧ WE X m env e fun y => R.nx (env.set i (some (.prv (d.put q (es ++ [y])))))) : WS X m env (.Expr (.Call (.Attribute o "append" p3) [e] [] p4) pos) R := by
  refine ⟨fun σ F0 H0 Fl F H De W s oe => tsc (ps_expr (hbm pe_can (pa_cons pe_can pa_nil hst)) hs) ?_⟩
  refine h.run σ H0 F H _ s.good s.env fun v x F1 H1 s1 hv q => ?_
  obtain ⟨q, es, rfl, hq, hfl, hlen, h2⟩ := q
  cases hv
  obtain ⟨v1, hσ1, ho1, hn1⟩ := (s.after s1).env.at_ i _ he
  obtain ⟨_, us1, hH1, _⟩ := hq.at ho1
  refine ⟨.inl ⟨rfl, us1, .of hH1⟩, ?_⟩
  refine h2.run σ H0 F1 H1 _ s1.good (s.after s1).env fun w y F2 H2 s2 hw q2 => ?_
  have st := (s.after s1).after s2
  obtain ⟨v2, hσ2, ho2, hn2⟩ := st.env.at_ i _ he
  obtain ⟨_, us, hH2, hus⟩ := hq.at ho2
  have hA := own_flats hus hfl
  refine ⟨q, us, w, rfl, rfl, hH2, by rw [hA.length, sizeLine_eq]; omega, ?_⟩
  exact oe.nx _ _ F2 _ (st.putAt he hH2 hq.mem (hA.append (.cons hw .nil))) q2
/-- o.clear() -/
theorem ws_clrAt (i : Nat) (hbm : ∀ {to : TE}, PE X o to → PE X (.Call (.Attribute o "clear" p3) [] [] p4) (tBM0 X.K "list" rClear to))
    (hs : swapsWith (.Call (.Attribute o "clear" p3) [] [] p4) none pos.line X.env = pure false) (he : env[i]? = some (some (.prv d)))
    (h : WE X m env o fun x => ∃ q es, x = .ref q ∧ Has q es d ∧ R.nx (env.set i (some (.prv (d.put q []))))) : WS X m env (.Expr (.Call (.Attribute o "clear" p3) [] [] p4) pos) R := by
  refine ⟨fun σ F0 H0 Fl F H De W s oe => tsc (ps_expr (hbm pe_can) hs) ?_⟩
  refine h.run σ H0 F H _ s.good s.env fun v x F1 H1 s1 hv q => ?_
  obtain ⟨q, es, rfl, hq, h2⟩ := q
  cases hv
  have st := s.after s1
  obtain ⟨v1, hσ1, ho1, hn1⟩ := st.env.at_ i _ he
  obtain ⟨_, us, hH1, _⟩ := hq.at ho1
  refine ⟨.inl ⟨rfl, us, .of hH1⟩, ?_⟩
  refine ⟨q, us, rfl, rfl, hH1, ?_⟩
  exact oe.nx _ _ F1 _ (st.putAt he hH1 hq.mem .nil) h2
/-- x.clear(), x the tree's first list -/
theorem ws_clrP (i : Nat) {p : Addr} {ds : List D} (hN : X.N[i]? = some x) (hv : Vis X.env.scope x) (hd : (x == ("__debug__" : Str)) = false) (hcd : (x == ("__classdict__" : Str)) = false)
    (hbm : ∀ {to : TE}, PE X (.Name x p2) to → PE X (.Call (.Attribute (.Name x p2) "clear" p3) [] [] p4) (tBM0 X.K "list" rClear to))
    (hs : swapsWith (.Call (.Attribute (.Name x p2) "clear" p3) [] [] p4) none pos.line X.env = pure false) (he : env[i]? = some (some (.prv (.own p ds))))
    (h : R.nx (env.set i (some (.prv ((D.own p ds).put p []))))) : WS X m env (.Expr (.Call (.Attribute (.Name x p2) "clear" p3) [] [] p4) pos) R := by
  refine ⟨fun σ F0 H0 Fl F H De W s oe => tsc (ps_expr (hbm (pe_var hN hv hd hcd)) hs) ?_⟩
  obtain ⟨v1, hσ1, ho1, hn1⟩ := s.env.at_ i _ he
  obtain ⟨_, us, hH1, _⟩ := (Has.here (q := p) (es := ds)).at ho1
  have e : v1 = .ref p := by cases ho1 with | is h => cases h | own _ _ _ => rfl
  subst e
  refine ⟨.ref p, hσ1, .inl ⟨rfl, us, .of hH1⟩, ?_⟩
  refine ⟨p, us, rfl, rfl, hH1, ?_⟩
  exact oe.nx _ _ F _ (s.putAt he hH1 (List.mem_cons_self ..) .nil) h
/-- y[b] = e, y the address of one of its lists -/
theorem ws_setAt (i j : Nat) {q : Addr} {zs : List D} (hN : X.N[j]? = some x) (hv : Vis X.env.scope x) (hd : (x == ("__debug__" : Str)) = false) (hcd : (x == ("__classdict__" : Str)) = false) (he : env[i]? = some (some (.prv d))) (hj : env[j]? = some (some (.frz (.ref q)))) (hq : Has q zs d) (hfl : Flats zs)
    (hps : PS X (.Assign [.Subscript (.Name x p2) b p3] e pos) (tAsg (TEc X e) (gSub (tVar j) (TEc X b) rSetL)))
    (h : WE X m env e fun y => WE X m env b fun z => asInt z fun k => ∃ n, ixN zs.length k = some n ∧ R.nx (env.set i (some (.prv (d.put q (zs.set n y)))))) : WS X m env (.Assign [.Subscript (.Name x p2) b p3] e pos) R := by
  refine ⟨fun σ F0 H0 Fl F H De W s oe => tsc hps ?_⟩
  refine h.run σ H0 F H _ s.good s.env fun w y F1 H1 s1 hw q1 => ?_
  obtain ⟨vj, hσj, hvj⟩ := s.env.at_ j _ hj
  cases hvj
  refine ⟨.ref q, hσj, ?_⟩
  refine q1.run σ H0 F1 H1 _ s1.good (s.after s1).env fun z dz F2 H2 s2 hz q2 => ?_
  obtain ⟨k, rfl, rfl, n, hn, q2⟩ := hz.asInt q2
  have st := (s.after s1).after s2
  obtain ⟨v2, hσ2, ho2, hn2⟩ := st.env.at_ i _ he
  obtain ⟨_, us, hH2, hus⟩ := hq.at ho2
  have hA := own_flats hus hfl
  refine ⟨q, us, k, n, rfl, rfl, hH2, by rw [hA.length]; exact hn, ?_⟩
  exact oe.nx _ _ F2 _ (st.putAt he hH2 hq.mem (hA.set (hw.mono s2.fs) n)) q2
/-! ### displays -/
structure WRA (X : Cx) (m : Option Mem) (env : Ev) (es : List Expr) (P : List D → Prop) : Prop where
  run : ∀ σ H0 F H k, Good X.K m F H → Envs X.K m H0 F H σ env → (∀ vs ds F' H', Step X.K m F H F' H' → OwnAll X.K (fun a => H a = none ∧ F' a = none) F' H' vs ds → (D.adsAll ds).Nodup → P ds → k vs H') → TAc X es σ H k
theorem wra_nil {P : List D → Prop} (h : P []) : WRA X m env [] P := ⟨fun σ H0 F H k g ev t => tac pa_nil (t [] [] F H (.refl g) .nil List.Pairwise.nil h)⟩
theorem wra_cons {P : List D → Prop} (h : WR X m env e fun d => WRA X m env es fun ds => P (d :: ds)) (hs : starEach (e :: es) X.env = (false, eval e X.env) :: starEach es X.env) : WRA X m env (e :: es) P := by
  refine ⟨fun σ H0 F H k g ev t => tac (pa_cons pe_can pa_can hs) ?_⟩
  refine h.run σ H0 F H _ g ev fun v d F1 H1 s1 hv hn w1 => ?_
  refine w1.run σ H0 F1 H1 _ s1.good (ev.step s1) fun vs ds F2 H2 s2 hvs hns q => ?_
  refine t _ _ F2 H2 (s1.trans s2) (.cons (hv.move s2.fs fun p _ o hf ho => ⟨⟨hf.1, s2.noF hf.2 ⟨_, ho⟩⟩, s2.keep p o (g.notm hf.1) ho⟩) (hvs.move (Same.refl _) fun p _ o hf ho => ⟨⟨fresh_before s1 g hf.1, hf.2⟩, ho⟩)) ?_ q
  refine List.nodup_append.mpr ⟨hn, hns, fun a ha b hb z => ?_⟩
  subst z
  obtain ⟨_, o, ho⟩ := hv.at a ha
  rw [(hvs.at a hb).1.1] at ho; cases ho
theorem wr_lst {P : D → Prop} (h : WRA X m env es fun ds => ds.length ≤ 1000000 ∧ ∀ p, P (.own p ds)) : WR X m env (.List es pos) P := by
  refine ⟨fun σ H0 F H k g ev t => tec (pe_lst pa_can) ?_⟩
  refine h.run σ H0 F H _ g ev fun vs ds F1 H1 s1 hvs hns q => ⟨?_, fun p hp => ?_⟩
  · rw [hvs.length]
    exact Nat.le_trans q.1 (by rw [sizeLine_eq]; decide)
  · have hF := s1.good.noF hp
    refine t _ (.own p ds) F1 _ (s1.trans (s1.good.fresh hp)) (.own ⟨fresh_before s1 g hp, hF⟩ upd_same (hvs.move (Same.refl _) fun a _ o hf ho => ⟨hf, (upd_ne (ne_of_none ho hp)).trans ho⟩)) ?_ (q.2 p)
    refine List.nodup_cons.mpr ⟨fun z => ?_, hns⟩
    obtain ⟨_, o, ho⟩ := hvs.at p z
    rw [hp] at ho; cases ho
theorem wr_tup {P : D → Prop} {k0 : Nat} (h : WRA X m env es fun ds => ds.length ≤ 1000000 ∧ P (.owt ds)) : WR X m env (.Tuple es k0 pos) P := by
  refine ⟨fun σ H0 F H k g ev t => tec (pe_tup pa_can) ?_⟩
  refine h.run σ H0 F H _ g ev fun vs ds F1 H1 s1 hvs hns q => ⟨?_, fun p hp => ?_⟩
  · rw [hvs.length]
    exact Nat.le_trans q.1 (by rw [sizeLine_eq]; decide)
  · have sg := s1.good.grow (o := .tup vs) hp
    refine t _ (.owt ds) _ _ (s1.trans sg) (.owt upd_same (hvs.move sg.fs fun a _ o hf ho => ⟨⟨hf.1, (upd_ne (ne_of_none ho hp)).trans hf.2⟩, (upd_ne (ne_of_none ho hp)).trans ho⟩)) hns q.2
/-! ### comprehensions whose items are new trees -/
variable {scope : Scope} {t : Nat}
structure WBR (X : Cx) (m : Option Mem) (env : Ev) (scope : Scope) (e : Expr) (P : D → Prop) : Prop where
  at_ : ∀ (s : Shared) (H0 : Hp) (C : Addr) (cl : List (Str × Addr)) (fp : List Addr), WR (X.blk s H0 scope (compEnvC scope cl C X.env) fp) m env e P
def CompR (K : PySem.W.Frag) (m : Option Mem) (F1 H1 : Hp) (L : Addr) (Pi : Nat → D → Prop) (i : Nat) (H : Hp) : Prop :=
  ∃ F' acc ds, Step K m F1 H1 F' H ∧ F' L = none ∧ H L = some (.lst acc) ∧ OwnAll K (fun a => (H1 a = none ∧ a ≠ L) ∧ F' a = none) F' H acc ds ∧ (D.adsAll ds).Nodup ∧ ds.length = i ∧ ∀ (j : Nat) (d : D), ds[j]? = some d → Pi j d
theorem comp_turnR {σ : L2.St} {H0 F1 H1 : Hp} {L : Addr} {Pi : Nat → D → Prop} {i : Nat} {H : Hp} {v : V} {d : D} (g1 : Good X.K m F1 H1) (ev : Envs X.K m H0 F1 H1 σ env) (hL : H1 L = none) (hm : ¬ Touch m L) (hi : i < 1000000) (I : CompR X.K m F1 H1 L Pi i H) (hv : ∀ F', Same F1 F' → Is X.K F' v d)
    (w : WBR X m ((env.set t none).set t (some (.frz d))) scope elt (Pi i)) :
    gName t v (wipe σ [t]) H fun σ2 H2 => wipe σ2 [t] = wipe σ [t] ∧ tYes σ2 H2 fun b H3 => if b = true then TBc X scope elt σ2 H3 fun y H4 => ∃ acc, H4 L = some (.lst acc) ∧ acc.length < sizeLine ∧ CompR X.K m F1 H1 L Pi (i + 1) (upd H4 L (.lst (acc ++ [y]))) else CompR X.K m F1 H1 L Pi (i + 1) H3 := by
  obtain ⟨F', acc, ds, s1, hF, hL2, ha, hnd, hl, hP⟩ := I
  unfold gName
  refine ⟨by show ((σ.set t none).set t (some v)).set t none = σ.set t none; rw [List.set_set, List.set_set], ?_⟩
  unfold tYes
  dsimp only
  rw [if_pos rfl]
  intro s H0' C cl fp
  have ev2 : Envs X.K m H0 F' H ((σ.set t none).set t (some v)) ((env.set t none).set t (some (.frz d))) := ((ev.step s1).wipe).frz (hv F' s1.fs)
  refine (w.at_ s H0' C cl fp).run _ H0 F' H _ s1.good ev2 fun y dy F2 H2 s2 hy hny hPy => ?_
  have hL3 : H2 L = some (.lst acc) := s2.keep L _ hm hL2
  have hF2 := s2.noF hF ⟨_, hL2⟩
  refine ⟨acc, hL3, ?_, F2, acc ++ [y], ds ++ [dy], (s1.trans s2).mut hF2 hm hL, hF2, upd_same, .append (ha.move s2.fs fun p _ o hf ho => ?_) (.cons (hy.move (Same.refl _) fun p _ o hf ho => ?_) .nil), ?_, ?_, fun j e he => ?_⟩
  · rw [ha.length, hl, sizeLine_eq]; omega
  · exact ⟨⟨hf.1, s2.noF hf.2 ⟨_, ho⟩⟩, (upd_ne hf.1.2).trans (s2.keep p o (g1.notm hf.1.1) ho)⟩
  · have hpL : p ≠ L := fun z => by rw [z, hL2] at hf; cases hf.1
    exact ⟨⟨⟨fresh_before s1 g1 hf.1, hpL⟩, hf.2⟩, (upd_ne hpL).trans ho⟩
  · rw [adsAll_app]
    refine List.nodup_append.mpr ⟨hnd, ?_, fun a ha' b hb z => ?_⟩
    · show (dy.ads ++ []).Nodup
      rw [List.append_nil]; exact hny
    · subst z
      obtain ⟨_, o, ho⟩ := ha.at a ha'
      have hb' : a ∈ dy.ads := by
        have : a ∈ dy.ads ++ [] := hb
        rwa [List.append_nil] at this
      rw [(hy.at a hb').1.1] at ho; cases ho
  · rw [List.length_append, hl]; rfl
  · rcases Nat.lt_or_ge j ds.length with hj | hj
    · rw [List.getElem?_append_left hj] at he
      exact hP j e he
    · rw [List.getElem?_append_right hj] at he
      have e0 : j - ds.length = 0 := by
        rcases Nat.eq_zero_or_pos (j - ds.length) with z | z
        · exact z
        · rw [List.getElem?_eq_none (by show 1 ≤ _; omega)] at he; cases he
      rw [e0] at he
      cases he
      rw [show j = i by omega]
      exact hPy
theorem comp_startR {σ : L2.St} {F1 H1 : Hp} {L : Addr} {Pi : Nat → D → Prop} (g : Good X.K m F1 H1) (hL : H1 L = none) : CompR X.K m F1 H1 L Pi 0 (upd H1 L (.lst [])) :=
  ⟨F1, [], [], g.fresh hL, g.noF hL, upd_same, .nil, List.Pairwise.nil, rfl, fun j d h => by simp at h⟩
theorem comp_endR {F H F1 H1 : Hp} {L : Addr} {Pi : Nat → D → Prop} {n : Nat} {H2 : Hp} {P : D → Prop} {k : VK} (g : Good X.K m F H) (s : Step X.K m F H F1 H1) (hL : H1 L = none) (I : CompR X.K m F1 H1 L Pi n H2) (th : ThenR X.K m F H P k)
    (h : ∀ es : List D, es.length = n → (∀ (i : Nat) (e : D), es[i]? = some e → Pi i e) → ∀ p, P (.own p es)) : k (.ref L) H2 := by
  obtain ⟨F', acc, ds, s1, hF, hL2, ha, hnd, hl, hP⟩ := I
  refine th _ (.own L ds) F' H2 (s.trans s1) (.own ⟨fresh_before s g hL, hF⟩ hL2 (ha.move (Same.refl _) fun p _ o hf ho => ⟨⟨fresh_before s g hf.1.1, hf.2⟩, ho⟩)) (List.nodup_cons.mpr ⟨fun z => (ha.at L z).1.1.2 rfl, hnd⟩) (h ds hl hP L)
theorem wr_comp (t : Nat) (own : List (Str × Nat)) (hown : own.map (·.2) = [t]) (hc : X.calm = true) (hN : X.N.Nodup) (ok : BlkOk X.N X.env.scope scope own) (hg : ∀ (s : Shared) (H : Hp) (C : Addr) (cl : List (Str × Addr)) (fp : List Addr), PG (X.blk s H scope (compEnvC scope cl C X.env) fp) tg (gName t))
    (hs : ∀ x, foldedSetIterable iter X.env x = pure x) {P : D → Prop}
    (w : WE X m env iter fun x => asLst x fun ds => ds.length ≤ 1000000 ∧ ∃ Pi : Nat → D → Prop, (∀ (i : Nat) (d : D), ds[i]? = some d → WBR X m ((env.set t none).set t (some (.frz d))) scope elt (Pi i)) ∧ ∀ es : List D, es.length = ds.length → (∀ (i : Nat) (e : D), es[i]? = some e → Pi i e) → ∀ p, P (.own p es)) :
    WR X m env (.ListComp elt [⟨tg, iter, [], 0⟩] scope pos) P := by
  refine ⟨fun σ H0 F H k g ev th => tec (pe_lc (te := TBc X scope elt) hc hN (pi_list pe_can) ok hg (fun _ _ _ _ _ => pts_nil) (fun s H C cl fp => ⟨fun pins s2 σ2 H2 Q I h => h s H C cl fp pins s2 I⟩) hs) ?_⟩
  refine w.run σ H0 F H _ g ev fun v d F1 H1 s1 hv q => ?_
  obtain ⟨p, xs, ds, rfl, rfl, h1, h2, hz, Pi, hP, hQ⟩ := hv.asLst q
  have h1' := s1.good.sub _ _ h1
  refine ⟨p, rfl, ⟨xs, .of h1'⟩, fun L hL => ?_⟩
  rw [hown]
  have hpL : p ≠ L := ne_of_none h1' hL
  refine lc_list (K := X.K) (a := p) (xs := xs) (CompR X.K m F1 H1 L Pi) (comp_startR (σ := σ) s1.good hL) (fun i H2 hi I => ?_) (fun i v H2 hi I => ?_) fun H2 I => ?_
  · obtain ⟨F', acc, es, s2, _⟩ := I
    exact .of (s2.good.sub _ _ (s2.fs _ _ h1))
  · obtain ⟨d, hd, iv⟩ := h2.getV hi
    have hlt : i < ds.length := (List.getElem?_eq_some_iff.mp hd).1
    exact comp_turnR s1.good (ev.step s1) hL (s1.good.notm hL) (by omega) I (fun F' sm => iv.mono sm) (hP i d hd)
  · exact comp_endR g s1 hL (by rw [← h2.length]; exact I) th hQ
theorem wr_compR (t : Nat) (own : List (Str × Nat)) (hown : own.map (·.2) = [t]) (hc : X.calm = true) (hN : X.N.Nodup) (ok : BlkOk X.N X.env.scope scope own) (hg : ∀ (s : Shared) (H : Hp) (C : Addr) (cl : List (Str × Addr)) (fp : List Addr), PG (X.blk s H scope (compEnvC scope cl C X.env) fp) tg (gName t))
    (hrg : Gl X "range") (hrm : X.mg "range" = none) (hst : starEach [a] X.env = [(false, eval a X.env)]) {pr : Pos}
    (hs : ∀ x, foldedSetIterable (.Call (.Name "range" p2) [a] [] pr) X.env x = pure x) {P : D → Prop}
    (w : WE X m env a fun x => asInt x fun n => (-1000000 ≤ n ∧ n ≤ 1000000) ∧ ∃ Pi : Nat → D → Prop, (∀ (i : Nat), (i : Int) < n → WBR X m ((env.set t none).set t (some (.frz (.int i)))) scope elt (Pi i)) ∧ ∀ es : List D, es.length = n.toNat → (∀ (i : Nat) (e : D), es[i]? = some e → Pi i e) → ∀ p, P (.own p es)) :
    WR X m env (.ListComp elt [⟨tg, .Call (.Name "range" p2) [a] [] pr, [], 0⟩] scope pos) P := by
  refine ⟨fun σ H0 F H k g ev th => tec (pe_lc (te := TBc X scope elt) hc hN (pi_range1 hrg hrm (pa_cons pe_can pa_nil hst) hst) ok hg (fun _ _ _ _ _ => pts_nil) (fun s H C cl fp => ⟨fun pins s2 σ2 H2 Q I h => h s H C cl fp pins s2 I⟩) hs) ?_⟩
  refine w.run σ H0 F H _ g ev fun v d F1 H1 s1 hv q => ?_
  obtain ⟨n, rfl, rfl, hz, Pi, hP, hQ⟩ := hv.asInt q
  refine ⟨n, rfl, by omega, by omega, fun L hL => ?_⟩
  rw [hown]
  refine lc_range (CompR X.K m F1 H1 L Pi) (comp_startR (σ := σ) s1.good hL) (fun i H2 hi I => ?_) fun H2 I => ?_
  · have hlt : (i : Int) < n := by omega
    have e0 : ((0 : Int) + (i : Int)) = (i : Int) := by omega
    rw [e0]
    exact comp_turnR s1.good (ev.step s1) hL (s1.good.notm hL) (by omega) I (fun F' sm => .int _) (hP i hlt)
  · have e0 : (n - 0).toNat = n.toNat := by rw [Int.sub_zero]
    exact comp_endR g s1 hL I th hQ
/-! ### a tree that is lent to a call -/
theorem wal_prv {bs : List Bool} {P : List D → Prop} (i : Nat) (hN : X.N[i]? = some x) (hv : Vis X.env.scope x) (hd : (x == ("__debug__" : Str)) = false) (hcd : (x == ("__classdict__" : Str)) = false) (he : env[i]? = some (some (.prv d)))
    (hs : starEach (.Name x p2 :: es) X.env = (false, eval (.Name x p2) X.env) :: starEach es X.env) (h : WAL X m env bs es fun es => P (d.er :: es)) : WAL X m env (true :: bs) (.Name x p2 :: es) P := by
  refine ⟨fun σ H0 F H k g ev t => tac (pa_cons (pe_var hN hv hd hcd) pa_can hs) ?_⟩
  obtain ⟨v, hσ, ho, hn⟩ := ev.at_ i _ he
  refine ⟨v, hσ, ?_⟩
  refine h.run σ H0 F H _ g ev fun vs es F2 H2 s2 hvs q => ?_
  have hA : AIs X.K m F H v d.er := by
    refine .inr ⟨withAt F H d.ads, fun a o e => ⟨withAt_s g.sub a o e, fun z => ?_⟩, own_er (fun a ha => (ho.at a ha).1.2.1) ho⟩
    have hn' : withAt F H d.ads a = none := by
      cases z with
      | b c => exact withAt_n (g.bag c rfl).1.1 fun z => (ho.at _ z).1.1 (.b c)
      | l c => exact withAt_n (g.bag c rfl).1.2 fun z => (ho.at _ z).1.1 (.l c)
    rw [hn'] at e; cases e
  exact t _ _ F2 H2 s2 (.lent (hA.step s2) hvs) q
end
/-! ### defs that give new trees -/
def spRL (K : PySem.W.Frag) (bs : List Bool) (A : List D → (D → Prop) → (Addr → List (Str × D) → Prop) → Prop) : Sp := fun vs H Q E => vs.length = bs.length ∧ ∃ F ds P PX, Good K none F H ∧ AAll K none F H bs vs ds ∧ A ds P PX ∧ ThenR K none F H P Q ∧
  ∀ C d fs F' H', Step K none F H F' H' → ExIs K H F' H' d fs → PX C fs → E (.ref C) d H'
section
variable {P : Program} {w : World} {K : PySem.W.Frag} {mg : Str → Option Value} {base : Heap}
theorem Fun.okRL {x qual : Str} {st : Stmt} {f : Addr} {fd : FuncData} {N Vn L G ps : List Str} {k : Nat} {bs : List Bool} {A : List D → (D → Prop) → (Addr → List (Str × D) → Prop) → Prop} (Fn : Fun K x qual st f fd) (S : FnScope N ps (defScope st)) (hps : ps.length = bs.length)
    (hv : ∀ x ∈ Vn, VisOk (defScope st) x = true) (hl : ∀ x ∈ L, LocOk (defScope st) x = true) (hg : ∀ x ∈ G, GlOk (defScope st) x = true)
    (hb : ∀ (X : Cx) (ds : List D) (Q : D → Prop) (QX : Addr → List (Str × D) → Prop), DX X P w K mg base N Vn L G (defScope st) k → ds.length = bs.length → A ds Q QX →
      WSs X none (envOfL N bs ds) (defBody st) { nx := fun _ => Q .non, rt := fun d _ => Q d, ex := fun C fs _ => QX C fs, ro := fun d _ => Q d }) :
    FnOk P w K mg base (L2.CX P w) (k + 1) f fd ps (spRL K bs A) := by
  refine Fn.okX S (fun vs H Q E h => h.1.trans hps.symm) fun cdv Ar outer s H vs Q E hr h => ⟨_, pss_can, ?_⟩
  obtain ⟨hl', F, ds, Q', QX, g, ha, hA, t, tx⟩ := h
  refine (hb _ ds Q' QX (dx_of (x := x) S hv hl hg hr) ha.len.2 hA).run _ F H F F H _ (fun cls d _ H => E cls d H) ⟨.refl g, envs_startL ha, Same.refl _⟩ ?_
  exact ⟨fun σ env F' H' s' q => t .non .non F' H' s'.step (.is .non) List.Pairwise.nil q, fun v d σ env F' H' s' hv q => t v d F' H' s'.step (.is hv) (by rw [hv.noAds.1]; exact List.Pairwise.nil) q, fun _ _ _ _ _ z => z.elim, fun _ _ _ _ _ z => z.elim, takes_of rfl rfl rfl rfl, fun σ env F' H' C d fs s' hx q => tx C d fs F' H' s'.step hx q,
    fun v d σ env F' H' s' ho hn q => t v d F' H' s'.step (ho.move (Same.refl _) fun p _ o hf ho => ⟨⟨hf.2.2, hf.2.1⟩, ho⟩) hn q⟩
end
section
variable {X : Cx} {P : Program} {w : World} {K : PySem.W.Frag} {mg : Str → Option Value} {base : Heap} {N Vn L G B : List Str} {S : Scope} {k k2 n : Nat} {x : Str} {i j j2 : Nat}
variable {m : Option Mem} {env : Ev} {a b c e iter elt o tg : Expr} {es : List Expr} {Q : D → Prop} {pos p2 p3 p4 pr : Pos} {R : DEnds} {ps : List Str} {bs : List Bool} {C : Addr}
theorem ThenR.any {F1 H1 : Hp} {Q : D → Prop} {kk : VK} (g : Good K m F1 H1) (t : ThenR K m F1 H1 Q kk) : ThenR K none F1 H1 Q kk := fun v d F2 H2 s2 hv hn hP => t v d F2 H2 (s2.any g) hv hn hP
/-- a call that gives a new tree and raises nothing -/
theorem dl_callR {A : List D → (D → Prop) → (Addr → List (Str × D) → Prop) → Prop} (dx : DX X P w K mg base N Vn L G S k) (F : FnAt P w K mg base x k2 ps (spRL K bs A)) (h3 : At G j x) (hk : k2 ≤ k) (he : starEach (e :: es) X.env = (false, eval e X.env) :: starEach es X.env) (hpl : (backTo pos (starEach es X.env)).any (·.1) = false)
    (hw : WAL X m env bs (e :: es) fun ds => A ds Q fun _ _ => False) : WR X m env (.Call (.Name x p2) (e :: es) [] pos) Q := by
  obtain ⟨f, fd, Fn, hm, hkp, hb⟩ := F.ex
  obtain ⟨g1, g2, g3⟩ := dx.g h3
  obtain rfl := dx.prog
  obtain rfl := dx.w_
  obtain rfl := dx.K_
  obtain rfl := dx.mg_
  obtain rfl := dx.base_
  refine ⟨fun σ H0 F H k g ev t => tec (pe_call Fn (dx.room.mono hk) g1 hm hkp hb .nil passL pa_can g2 he hpl) ?_⟩
  refine hw.run σ H0 F H _ g ev fun vs ds F1 H1 s1 hvs q => ?_
  rw [List.append_nil]
  exact ⟨hvs.len.1, F1, ds, Q, _, s1.good.any, hvs.any, q, (t.after g s1).any s1.good, fun _ _ _ _ _ _ _ z => z.elim⟩
theorem dl_methR {A : List D → (D → Prop) → (Addr → List (Str × D) → Prop) → Prop} {pl : Sem Bool} {apos : Pos} (dx : DX X P w K mg base N Vn L G S k) (c : Cls K C) (F : MeAt P w K mg base C x k2 ps (spRL K (false :: bs) A)) (hk : k2 ≤ k)
    (he : starEach (e :: es) X.env = (false, eval e X.env) :: starEach es X.env) (hpl : (backTo pos (starEach es X.env)).any (·.1) = false)
    (ht : eval (.Call (.Attribute o x apos) (e :: es) [] pos) X.env = (do
      let ov ← eval o X.env
      standAt apos.atName
      let (f, first) ← holding [ov] (getMethod ov x pl)
      callWith pos f first (backTo pos (starEach (e :: es) X.env)) (backToKw pos (keywordEach [] X.env))))
    (hw : WE X m env o fun d => ∃ fs, d = .ins C fs ∧ fs.lookup x = none ∧ WAL X m env bs (e :: es) fun ds => A (d :: ds) Q fun _ _ => False) : WR X m env (.Call (.Attribute o x apos) (e :: es) [] pos) Q := by
  obtain ⟨f, fd, Fn, hm, hb⟩ := F.ex
  obtain rfl := dx.prog
  obtain rfl := dx.w_
  obtain rfl := dx.K_
  obtain rfl := dx.mg_
  obtain rfl := dx.base_
  refine ⟨fun σ H0 F H kk g ev t => tec (pe_meth pe_can c hm Fn (dx.room.mono hk) hb .nil passL pa_can he hpl ht) ?_⟩
  refine hw.run σ H0 F H _ g ev fun v d F1 H1 s1 hv q => ?_
  obtain ⟨fs, rfl, hl, hq⟩ := q
  have hv0 := hv
  cases hv with
  | ins h1 h2 h3 =>
    rename_i ad dd gs
    refine ⟨ad, dd, gs, rfl, s1.good.sub _ _ h1, names_none h2 hl, ?_⟩
    refine hq.run σ H0 F1 H1 _ s1.good (ev.step s1) fun vs ds F2 H2 s2 hvs q => ?_
    have hall : AAll X.K m F2 H2 (false :: bs) (.ref ad :: vs) (.ins C fs :: ds) := .frz (hv0.mono s2.fs) hvs
    rw [List.append_nil]
    exact ⟨hall.len.1, F2, _, Q, _, s2.good.any, hall.any, q, ((t.after g s1).after s1.good s2).any s2.good, fun _ _ _ _ _ _ _ z => z.elim⟩
theorem dl_methR0 {A : List D → (D → Prop) → (Addr → List (Str × D) → Prop) → Prop} {pl : Sem Bool} {apos : Pos} (dx : DX X P w K mg base N Vn L G S k) (c : Cls K C) (F : MeAt P w K mg base C x k2 ps (spRL K [false] A)) (hk : k2 ≤ k)
    (ht : eval (.Call (.Attribute o x apos) [] [] pos) X.env = (do
      let ov ← eval o X.env
      standAt apos.atName
      let (f, first) ← holding [ov] (getMethod ov x pl)
      callWith pos f first (backTo pos (starEach [] X.env)) (backToKw pos (keywordEach [] X.env))))
    (hw : WE X m env o fun d => ∃ fs, d = .ins C fs ∧ fs.lookup x = none ∧ A [d] Q fun _ _ => False) : WR X m env (.Call (.Attribute o x apos) [] [] pos) Q := by
  obtain ⟨f, fd, Fn, hm, hb⟩ := F.ex
  obtain rfl := dx.prog
  obtain rfl := dx.w_
  obtain rfl := dx.K_
  obtain rfl := dx.mg_
  obtain rfl := dx.base_
  refine ⟨fun σ H0 F H kk g ev t => tec (pe_meth0 pe_can c hm Fn (dx.room.mono hk) hb .nil passL ht) ?_⟩
  refine hw.run σ H0 F H _ g ev fun v d F1 H1 s1 hv q => ?_
  obtain ⟨fs, rfl, hl, hq⟩ := q
  have hv0 := hv
  cases hv with
  | ins h1 h2 h3 =>
    rename_i ad dd gs
    refine ⟨ad, dd, gs, rfl, s1.good.sub _ _ h1, names_none h2 hl, ?_⟩
    have hall : AAll X.K m F1 H1 [false] [.ref ad] [.ins C fs] := .frz hv0 .nil
    exact ⟨rfl, F1, _, Q, _, s1.good.any, hall.any, hq, (t.after g s1).any s1.good, fun _ _ _ _ _ _ _ z => z.elim⟩
end
end DL
set_option Elab.async false
set_option linter.all false
set_option maxRecDepth 100000
set_option autoImplicit false
set_option maxHeartbeats 1000000
/-! DL, part 26: own trees by name; name = [..] of new trees; the rules of the parts 24 and 25 by a def's context. -/
namespace DL
open PySem L2
section
variable {X : Cx} {m : Option Mem} {env : Ev} {a b c e elt iter tg : Expr} {es : List Expr} {pos p2 p3 pr py spos : Pos} {scope : Scope} {x y : Str} {t : Nat} {R : DEnds}
theorem thR {F0 H0 Fl F H : Hp} {σ : L2.St} {De : Ends} {W : WX} {i : Nat} (s : Sta X.K m F0 H0 Fl F H σ env) (o : EndsOk X m F0 H0 Fl R De W) : ThenR X.K m F H (fun d => R.nx (env.set i (some (.prv d)))) (fun x H1 => De.nx (σ.set i (some x)) H1) := fun v d F1 H1 s1 hv hn q =>
  o.nx _ _ F1 H1 ⟨s.step.trans s1, s.env.prvR s.good s1 hv hn fun a ha => s.step.none0 ha, s.fl.trans s1.fs⟩ q
theorem ws_setCompP (i : Nat) (t : Nat) (own : List (Str × Nat)) (hown : own.map (·.2) = [t]) (hc : X.calm = true) (hN : X.N.Nodup) (hy : X.N[i]? = some y) (hyl : X.env.scope.names.lookup y = some .local) (hsw : swapsWith (.ListComp elt [⟨tg, iter, [], 0⟩] scope pos) (some (.Name y py)) spos.line X.env = pure true)
    (ok : BlkOk X.N X.env.scope scope own) (hg : ∀ (s : Shared) (H : Hp) (C : Addr) (cl : List (Str × Addr)) (fp : List Addr), PG (X.blk s H scope (compEnvC scope cl C X.env) fp) tg (gName t))
    (hs : ∀ x, foldedSetIterable iter X.env x = pure x)
    (w : WE X m env iter fun x => asLst x fun ds => ds.length ≤ 1000000 ∧ ∃ Pi : Nat → D → Prop, (∀ (i : Nat) (d : D), ds[i]? = some d → WBR X m ((env.set t none).set t (some (.frz d))) scope elt (Pi i)) ∧ ∀ es : List D, es.length = ds.length → (∀ (i : Nat) (e : D), es[i]? = some e → Pi i e) → ∀ p, R.nx (env.set i (some (.prv (.own p es))))) :
    WS X m env (.Assign [.Name y py] (.ListComp elt [⟨tg, iter, [], 0⟩] scope pos) spos) R := by
  refine ⟨fun σ F0 H0 Fl F H De W s o => tsc (ps_setLc (te := TBc X scope elt) hc hN hy hyl hsw (pi_list pe_can) ok hg (fun _ _ _ _ _ => pts_nil) (fun s H C cl fp => ⟨fun pins s2 σ2 H2 Q I h => h s H C cl fp pins s2 I⟩) hs) ?_⟩
  have th := thR (i := i) s o
  have g := s.good
  have ev := s.env
  refine w.run σ H0 F H _ g ev fun v d F1 H1 s1 hv q => ?_
  obtain ⟨p, xs, ds, rfl, rfl, h1, h2, hz, Pi, hP, hQ⟩ := hv.asLst q
  have h1' := s1.good.sub _ _ h1
  refine ⟨p, rfl, ⟨xs, .of h1'⟩, fun L hL => ?_⟩
  rw [hown]
  have hpL : p ≠ L := ne_of_none h1' hL
  refine lc_list (K := X.K) (a := p) (xs := xs) (CompR X.K m F1 H1 L Pi) (comp_startR (σ := σ) s1.good hL) (fun i H2 hi I => ?_) (fun i v H2 hi I => ?_) fun H2 I => ?_
  · obtain ⟨F', acc, es, s2, _⟩ := I
    exact .of (s2.good.sub _ _ (s2.fs _ _ h1))
  · obtain ⟨d, hd, iv⟩ := h2.getV hi
    have hlt : i < ds.length := (List.getElem?_eq_some_iff.mp hd).1
    exact comp_turnR s1.good (ev.step s1) hL (s1.good.notm hL) (by omega) I (fun F' sm => iv.mono sm) (hP i d hd)
  · exact comp_endR g s1 hL (by rw [← h2.length]; exact I) th hQ
theorem ws_setCompRP (i : Nat) (t : Nat) (own : List (Str × Nat)) (hown : own.map (·.2) = [t]) (hc : X.calm = true) (hN : X.N.Nodup) (hy : X.N[i]? = some y) (hyl : X.env.scope.names.lookup y = some .local) (hsw : swapsWith (.ListComp elt [⟨tg, .Call (.Name "range" p2) [a] [] pr, [], 0⟩] scope pos) (some (.Name y py)) spos.line X.env = pure true)
    (ok : BlkOk X.N X.env.scope scope own) (hg : ∀ (s : Shared) (H : Hp) (C : Addr) (cl : List (Str × Addr)) (fp : List Addr), PG (X.blk s H scope (compEnvC scope cl C X.env) fp) tg (gName t))
    (hrg : Gl X "range") (hrm : X.mg "range" = none) (hst : starEach [a] X.env = [(false, eval a X.env)])
    (hs : ∀ x, foldedSetIterable (.Call (.Name "range" p2) [a] [] pr) X.env x = pure x)
    (w : WE X m env a fun x => asInt x fun n => (-1000000 ≤ n ∧ n ≤ 1000000) ∧ ∃ Pi : Nat → D → Prop, (∀ (i : Nat), (i : Int) < n → WBR X m ((env.set t none).set t (some (.frz (.int i)))) scope elt (Pi i)) ∧ ∀ es : List D, es.length = n.toNat → (∀ (i : Nat) (e : D), es[i]? = some e → Pi i e) → ∀ p, R.nx (env.set i (some (.prv (.own p es))))) :
    WS X m env (.Assign [.Name y py] (.ListComp elt [⟨tg, .Call (.Name "range" p2) [a] [] pr, [], 0⟩] scope pos) spos) R := by
  refine ⟨fun σ F0 H0 Fl F H De W s o => tsc (ps_setLc (te := TBc X scope elt) hc hN hy hyl hsw (pi_range1 hrg hrm (pa_cons pe_can pa_nil hst) hst) ok hg (fun _ _ _ _ _ => pts_nil) (fun s H C cl fp => ⟨fun pins s2 σ2 H2 Q I h => h s H C cl fp pins s2 I⟩) hs) ?_⟩
  have th := thR (i := i) s o
  have g := s.good
  have ev := s.env
  refine w.run σ H0 F H _ g ev fun v d F1 H1 s1 hv q => ?_
  obtain ⟨n, rfl, rfl, hz, Pi, hP, hQ⟩ := hv.asInt q
  refine ⟨n, rfl, by omega, by omega, fun L hL => ?_⟩
  rw [hown]
  refine lc_range (CompR X.K m F1 H1 L Pi) (comp_startR (σ := σ) s1.good hL) (fun i H2 hi I => ?_) fun H2 I => ?_
  · have hlt : (i : Int) < n := by omega
    have e0 : ((0 : Int) + (i : Int)) = (i : Int) := by omega
    rw [e0]
    exact comp_turnR s1.good (ev.step s1) hL (s1.good.notm hL) (by omega) I (fun F' sm => .int _) (hP i hlt)
  · exact comp_endR g s1 hL I th hQ
end
section
variable {X : Cx} {P : Program} {w : World} {K : PySem.W.Frag} {mg : Str → Option Value} {base : Heap} {N Vn L G B : List Str} {S : Scope} {k k2 n : Nat} {x y : Str} {i j j2 j3 : Nat}
variable {m : Option Mem} {env : Ev} {a b c e iter elt o tg : Expr} {es : List Expr} {Q : D → Prop} {pos p2 p3 p4 pr py spos : Pos} {R : DEnds} {rest body els : List Stmt} {ps : List Str}
theorem dl_setCompP (t : Nat) (own : List (Str × Nat)) (Vc Gc : List Str) {scope : Scope} (dx : DX X P w K mg base N Vn L G S k) (h5 : At N i y) (hS : S.kind = .function) (hy : S.names.lookup y = some .local) (hln : (py.line == pos.line) = true) (hno : (scope.names.any fun (n, k) => n == y && (k == .local || k == .cell)) = false)
    (ok : blkC N S scope own = true) (hown : own.map (·.2) = [t]) (h1 : At N t x) (hx : LocOk scope x = true) (hv : ∀ x ∈ Vc, VisOk (relS scope S) x = true) (hg : ∀ x ∈ Gc, GlOk (relS scope S) x = true)
    (hs : ∀ y, foldedSetIterable iter X.env y = pure y)
    (hw : WE X m env iter fun x => asLst x fun ds => ds.length ≤ 1000000 ∧ ∃ Pi : Nat → D → Prop, (∀ (i : Nat) (d : D), ds[i]? = some d → ∀ X', DX X' P w K mg base N Vc [] Gc (relS scope S) k → X'.K = X.K → WR X' m ((env.set t none).set t (some (.frz d))) elt (Pi i)) ∧ ∀ es : List D, es.length = ds.length → (∀ (i : Nat) (e : D), es[i]? = some e → Pi i e) → ∀ p, R.nx (env.set i (some (.prv (.own p es))))) :
    WS X m env (.Assign [.Name y py] (.ListComp elt [⟨.Name x p2, iter, [], 0⟩] scope pos) spos) R := by
  refine ws_setCompP i t own hown dx.calm dx.ndX (dx.n h5) (by rw [dx.S_]; exact hy) (sw_true (by rw [dx.S_]; exact hS) (by rw [dx.S_]; exact hy) hln hno) (by rw [dx.N_, dx.S_]; exact blkOk_by ok) (blk_pg dx h1 hx) hs (hw.mono fun d q => ?_)
  cases d <;> first | exact q.elim | skip
  obtain ⟨hz, Pi, h2, h3⟩ := q
  exact ⟨hz, Pi, fun i d hd => ⟨fun s H C cl fp => h2 i d hd _ (blk_dx dx hv hg s H C cl fp) rfl⟩, h3⟩
theorem dl_setCompRP (t : Nat) (own : List (Str × Nat)) (Vc Gc : List Str) {scope : Scope} (dx : DX X P w K mg base N Vn L G S k) (bn : NoMg mg B) (h5 : At N i y) (hS : S.kind = .function) (hy : S.names.lookup y = some .local) (hln : (py.line == pos.line) = true) (hno : (scope.names.any fun (n, k) => n == y && (k == .local || k == .cell)) = false)
    (ok : blkC N S scope own = true) (hown : own.map (·.2) = [t]) (h1 : At N t x) (hx : LocOk scope x = true) (hv : ∀ x ∈ Vc, VisOk (relS scope S) x = true) (hg : ∀ x ∈ Gc, GlOk (relS scope S) x = true)
    (h3 : At G j "range") (h4 : At B j2 "range") (hst : starEach [a] X.env = [(false, eval a X.env)]) (hs : ∀ y, foldedSetIterable (.Call (.Name "range" p3) [a] [] pr) X.env y = pure y)
    (hw : WE X m env a fun x => asInt x fun n => (-1000000 ≤ n ∧ n ≤ 1000000) ∧ ∃ Pi : Nat → D → Prop, (∀ (i : Nat), (i : Int) < n → ∀ X', DX X' P w K mg base N Vc [] Gc (relS scope S) k → X'.K = X.K → WR X' m ((env.set t none).set t (some (.frz (.int i)))) elt (Pi i)) ∧ ∀ es : List D, es.length = n.toNat → (∀ (i : Nat) (e : D), es[i]? = some e → Pi i e) → ∀ p, R.nx (env.set i (some (.prv (.own p es))))) :
    WS X m env (.Assign [.Name y py] (.ListComp elt [⟨.Name x p2, .Call (.Name "range" p3) [a] [] pr, [], 0⟩] scope pos) spos) R := by
  refine ws_setCompRP i t own hown dx.calm dx.ndX (dx.n h5) (by rw [dx.S_]; exact hy) (sw_true (by rw [dx.S_]; exact hS) (by rw [dx.S_]; exact hy) hln hno) (by rw [dx.N_, dx.S_]; exact blkOk_by ok) (blk_pg dx h1 hx) (dx.g h3).1 (dx.b bn h4) hst hs (hw.mono fun d q => ?_)
  cases d <;> first | exact q.elim | skip
  obtain ⟨hz, Pi, h2, h3⟩ := q
  exact ⟨hz, Pi, fun i hd => ⟨fun s H C cl fp => h2 i hd _ (blk_dx dx hv hg s H C cl fp) rfl⟩, h3⟩
theorem dl_wcomp (t : Nat) (own : List (Str × Nat)) (Vc Gc : List Str) {scope : Scope} (dx : DX X P w K mg base N Vn L G S k) (ok : blkC N S scope own = true) (hown : own.map (·.2) = [t]) (h1 : At N t x) (hx : LocOk scope x = true) (hv : ∀ x ∈ Vc, VisOk (relS scope S) x = true) (hg : ∀ x ∈ Gc, GlOk (relS scope S) x = true)
    (hs : ∀ y, foldedSetIterable iter X.env y = pure y) {Q : D → Prop}
    (hw : WE X m env iter fun x => asLst x fun ds => ds.length ≤ 1000000 ∧ ∃ Pi : Nat → D → Prop, (∀ (i : Nat) (d : D), ds[i]? = some d → ∀ X', DX X' P w K mg base N Vc [] Gc (relS scope S) k → X'.K = X.K → WR X' m ((env.set t none).set t (some (.frz d))) elt (Pi i)) ∧ ∀ es : List D, es.length = ds.length → (∀ (i : Nat) (e : D), es[i]? = some e → Pi i e) → ∀ p, Q (.own p es)) :
    WR X m env (.ListComp elt [⟨.Name x p2, iter, [], 0⟩] scope pos) Q := by
  refine wr_comp t own hown dx.calm dx.ndX (by rw [dx.N_, dx.S_]; exact blkOk_by ok) (blk_pg dx h1 hx) hs (hw.mono fun d q => ?_)
  cases d <;> first | exact q.elim | skip
  obtain ⟨hz, Pi, h2, h3⟩ := q
  exact ⟨hz, Pi, fun i d hd => ⟨fun s H C cl fp => h2 i d hd _ (blk_dx dx hv hg s H C cl fp) rfl⟩, h3⟩
theorem dl_wcompR (t : Nat) (own : List (Str × Nat)) (Vc Gc : List Str) {scope : Scope} (dx : DX X P w K mg base N Vn L G S k) (bn : NoMg mg B) (ok : blkC N S scope own = true) (hown : own.map (·.2) = [t]) (h1 : At N t x) (hx : LocOk scope x = true) (hv : ∀ x ∈ Vc, VisOk (relS scope S) x = true) (hg : ∀ x ∈ Gc, GlOk (relS scope S) x = true)
    (h3 : At G j "range") (h4 : At B j2 "range") (hst : starEach [a] X.env = [(false, eval a X.env)]) (hs : ∀ y, foldedSetIterable (.Call (.Name "range" p3) [a] [] pr) X.env y = pure y) {Q : D → Prop}
    (hw : WE X m env a fun x => asInt x fun n => (-1000000 ≤ n ∧ n ≤ 1000000) ∧ ∃ Pi : Nat → D → Prop, (∀ (i : Nat), (i : Int) < n → ∀ X', DX X' P w K mg base N Vc [] Gc (relS scope S) k → X'.K = X.K → WR X' m ((env.set t none).set t (some (.frz (.int i)))) elt (Pi i)) ∧ ∀ es : List D, es.length = n.toNat → (∀ (i : Nat) (e : D), es[i]? = some e → Pi i e) → ∀ p, Q (.own p es)) :
    WR X m env (.ListComp elt [⟨.Name x p2, .Call (.Name "range" p3) [a] [] pr, [], 0⟩] scope pos) Q := by
  refine wr_compR t own hown dx.calm dx.ndX (by rw [dx.N_, dx.S_]; exact blkOk_by ok) (blk_pg dx h1 hx) (dx.g h3).1 (dx.b bn h4) hst hs (hw.mono fun d q => ?_)
  cases d <;> first | exact q.elim | skip
  obtain ⟨hz, Pi, h2, h3⟩ := q
  exact ⟨hz, Pi, fun i hd => ⟨fun s H C cl fp => h2 i hd _ (blk_dx dx hv hg s H C cl fp) rfl⟩, h3⟩
variable {d : D} {bs : List Bool} {apos : Pos}
theorem dl_setP (dx : DX X P w K mg base N Vn L G S k) (h1 : At N i x) (h2 : At L j x) (hs : swapsWith e (some (.Name x p2)) pos.line X.env = pure false) (h : WR X m env e fun d => R.nx (env.set i (some (.prv d)))) : WS X m env (.Assign [.Name x p2] e pos) R :=
  let ⟨h3, h4⟩ := dx.l h2; ws_setR i dx.ndX (dx.n h1) h3 h4 hs h
theorem dl_retOwnR (dx : DX X P w K mg base N Vn L G S k) (h1 : At N i x) (h2 : At Vn j x) {q0 : Addr} {ds : List D} (he : env[i]? = some (some (.own q0 (.lst ds)))) (h : R.ro (.own q0 ds) env) : WS X m env (.Return (some (.Name x p2)) pos) R :=
  let ⟨v, d1, d2⟩ := dx.v h2; ws_retOwnR i (dx.n h1) v d1 d2 he h
theorem dl_retPrv (dx : DX X P w K mg base N Vn L G S k) (h1 : At N i x) (h2 : At Vn j x) (he : env[i]? = some (some (.prv d))) (h : R.ro d env) : WS X m env (.Return (some (.Name x p2)) pos) R :=
  let ⟨v, d1, d2⟩ := dx.v h2; ws_retPrv i (dx.n h1) v d1 d2 he h
theorem dal_prv (dx : DX X P w K mg base N Vn L G S k) (h1 : At N i x) (h2 : At Vn j x) {P : List D → Prop} (he : env[i]? = some (some (.prv d))) (hs : starEach (.Name x p2 :: es) X.env = (false, eval (.Name x p2) X.env) :: starEach es X.env) (h : WAL X m env bs es fun es => P (d.er :: es)) : WAL X m env (true :: bs) (.Name x p2 :: es) P :=
  let ⟨v, d1, d2⟩ := dx.v h2; wal_prv i (dx.n h1) v d1 d2 he hs h
theorem dl_clear (dx : DX X P w K mg base N Vn L G S k) (h1 : At N i x) (h2 : At Vn j x) {q0 : Addr} {ds : List D} (he : env[i]? = some (some (.own q0 (.lst ds))))
    (hbm : ∀ {to : TE}, PE X (.Name x p2) to → PE X (.Call (.Attribute (.Name x p2) "clear" p3) [] [] p4) (tBM0 X.K "list" rClear to))
    (hs : swapsWith (.Call (.Attribute (.Name x p2) "clear" p3) [] [] p4) none pos.line X.env = pure false) (h : R.nx (env.set i (some (.own q0 (.lst []))))) : WS X m env (.Expr (.Call (.Attribute (.Name x p2) "clear" p3) [] [] p4) pos) R := by
  obtain ⟨hv, hd, hcd⟩ := dx.v h2
  refine ⟨fun σ F0 H0 Fl F H De W s o => tsc (ps_expr (hbm (pe_var (dx.n h1) hv hd hcd)) hs) ?_⟩
  obtain ⟨v, hσ, ho, rfl, hm, hF, h0, hH, xs, rfl, ha⟩ := s.env.at_ i _ he
  refine ⟨.ref q0, hσ, .inl ⟨rfl, xs, .of hH⟩, ?_⟩
  refine ⟨q0, xs, rfl, rfl, hH, ?_⟩
  exact o.nx _ _ F _ ⟨s.step.mut hF hm h0, s.env.mut he (.ofL .nil), s.fl⟩ h
theorem dl_clrP (dx : DX X P w K mg base N Vn L G S k) (h1 : At N i x) (h2 : At Vn j x) {p : Addr} {ds : List D} (he : env[i]? = some (some (.prv (.own p ds))))
    (hbm : ∀ {to : TE}, PE X (.Name x p2) to → PE X (.Call (.Attribute (.Name x p2) "clear" p3) [] [] p4) (tBM0 X.K "list" rClear to))
    (hs : swapsWith (.Call (.Attribute (.Name x p2) "clear" p3) [] [] p4) none pos.line X.env = pure false)
    (h : R.nx (env.set i (some (.prv ((D.own p ds).put p []))))) : WS X m env (.Expr (.Call (.Attribute (.Name x p2) "clear" p3) [] [] p4) pos) R :=
  let ⟨v, d1, d2⟩ := dx.v h2; ws_clrP i (dx.n h1) v d1 d2 hbm hs he h
theorem dl_setAt (dx : DX X P w K mg base N Vn L G S k) {i0 : Nat} {q : Addr} {zs : List D} (h1 : At N i x) (h2 : At Vn j x) (he : env[i0]? = some (some (.prv d))) (hj : env[i]? = some (some (.frz (.ref q)))) (hq : Has q zs d) (hfl : Flats zs)
    (ha : ∀ v, assign (.Subscript (.Name x p2) b p3) X.env v = (do
      let ov ← holding [v] (eval (.Name x p2) X.env)
      let iv ← holding [v, ov] (eval b X.env)
      standAt p3
      holding [v, ov, iv] (setItem ov iv v)
      release [v, ov, iv] []))
    (hs : swapsWithSole [.Subscript (.Name x p2) b p3] e pos.line X.env = pure false) (hw : swappedStores [.Subscript (.Name x p2) b p3] e X.env = pure none)
    (h1' : (assignEach [.Subscript (.Name x p2) b p3] X.env).map (·.2) = [assign (.Subscript (.Name x p2) b p3) X.env])
    (h : WE X m env e fun y => WE X m env b fun z => asInt z fun k => ∃ n, ixN zs.length k = some n ∧ R.nx (env.set i0 (some (.prv (d.put q (zs.set n y)))))) : WS X m env (.Assign [.Subscript (.Name x p2) b p3] e pos) R :=
  let ⟨v, d1, d2⟩ := dx.v h2; ws_setAt i0 i (dx.n h1) v d1 d2 he hj hq hfl (ps_setIx (dx.n h1) v d1 d2 ha hs hw h1') h
end
end DL
set_option Elab.async false
set_option linter.all false
set_option maxRecDepth 100000
set_option autoImplicit false
/-! DL, part 27: a def that gives a new tree gives data that stays. -/
namespace DL
open PySem L2
theorem aall_of {K : PySem.W.Frag} {F H : Hp} : ∀ {vs : List V} {ds : List D}, IsAll K F vs ds → AAll K none F H (List.replicate ds.length false) vs ds
  | _, _, .nil => .nil
  | _, _, .cons h t => .frz h (aall_of t)
theorem ThenR.of {K : PySem.W.Frag} {F H : Hp} {P : D → Prop} {k : VK} (g : Good K none F H) (t : Then K none F H P k) : ThenR K none F H (fun d => P d.er) k := fun v d F' H' s hv hn hP => by
  have hf : ∀ a ∈ d.ads, F' a = none := fun a ha => (hv.at a ha).1.2
  refine t v d.er (withAt F' H' d.ads) H' ⟨s.fs.trans withAt_l, s.good.withAt (fun a _ z => nomatch z), fun a h1 h2 => ?_, s.keep⟩ (own_er hf hv) hP
  cases e : F' a with
  | some u => exact s.new a h1 (by rw [e]; exact fun z => nomatch z)
  | none =>
    by_cases ha : a ∈ d.ads
    · exact (hv.at a ha).1.1
    · exact absurd (withAt_n e ha) h2
theorem spD_of {K : PySem.W.Frag} {n : Nat} {A : List D → (D → Prop) → (Addr → List (Str × D) → Prop) → Prop} {A' : List D → (D → Prop) → Prop} (h : ∀ ds P, A' ds P → A ds (fun d => P d.er) fun _ _ => False) (vs : List V) (H : Hp) (Q : VK) (E : XK) (q : spD K none n A' vs H Q E) : spRL K (List.replicate n false) A vs H Q E := by
  obtain ⟨hl, F, ds, P, g, ha, hA, t⟩ := q
  have e : ds.length = n := ha.length.symm.trans hl
  subst e
  exact ⟨by rw [List.length_replicate]; exact hl, F, ds, _, _, g, aall_of ha, h ds P hA, ThenR.of g t, fun _ _ _ _ _ _ _ z => z.elim⟩
end DL
set_option Elab.async false
set_option linter.all false
set_option maxRecDepth 100000
set_option autoImplicit false
set_option maxHeartbeats 1000000
/-! DL, part 28: a tree lent with one of its lists by its other name; x[e] = a new tree, x an own tree. -/
namespace DL
open PySem L2
theorem adsAll_set {ds : List D} {n : Nat} {y : D} {a : Addr} (h : a ∈ D.adsAll (ds.set n y)) : a ∈ D.adsAll ds ∨ a ∈ y.ads := by
  induction ds generalizing n with
  | nil => exact .inl h
  | cons d ds ih =>
    cases n with
    | zero =>
      rcases List.mem_append.mp (show a ∈ y.ads ++ D.adsAll ds from h) with h | h
      · exact .inr h
      · exact .inl (List.mem_append_right _ h)
    | succ n =>
      rcases List.mem_append.mp (show a ∈ d.ads ++ D.adsAll (ds.set n y) from h) with h | h
      · exact .inl (List.mem_append_left _ h)
      · rcases ih h with h | h
        · exact .inl (List.mem_append_right _ h)
        · exact .inr h
theorem adsAll_setN {ds : List D} {n : Nat} {y : D} (h : (D.adsAll ds).Nodup) (hy : y.ads.Nodup) (hx : ∀ a ∈ D.adsAll ds, a ∉ y.ads) : (D.adsAll (ds.set n y)).Nodup := by
  induction ds generalizing n with
  | nil => exact h
  | cons d ds ih =>
    have h' : (d.ads ++ D.adsAll ds).Nodup := h
    obtain ⟨h1, h2, h3⟩ := List.nodup_append.mp h'
    cases n with
    | zero =>
      show (y.ads ++ D.adsAll ds).Nodup
      refine List.nodup_append.mpr ⟨hy, h2, fun a ha b hb e => ?_⟩
      subst e
      exact hx _ (List.mem_append_right _ hb) ha
    | succ n =>
      show (d.ads ++ D.adsAll (ds.set n y)).Nodup
      refine List.nodup_append.mpr ⟨h1, ih h2 fun a ha => hx a (List.mem_append_right _ ha), fun a ha b hb e => ?_⟩
      subst e
      rcases adsAll_set hb with hb | hb
      · exact h3 _ ha _ hb rfl
      · exact hx _ (List.mem_append_left _ ha) hb
section
variable {K : PySem.W.Frag} {m : Option Mem} {F F' H H' H0 : Hp} {env : Ev} {σ : L2.St} {d d1 d2 y : D} {v : V}
theorem Envs.retype {j : Nat} (h : Envs K m H0 F H σ env) (hj : env[j]? = some (some (.frz d1))) (hi : ∀ v, Is K F v d1 → Is K F v d2) : Envs K m H0 F H σ (env.set j (some (.frz d2))) := by
  obtain ⟨v, hσ, hv⟩ := h.at_ j _ hj
  refine ⟨fun i t e => ?_, by rw [List.length_set]; exact h.len, fun i k ds es p hik e1 e2 => ?_, h.apt.set fun s e => by cases e; rfl⟩
  · rcases set_at e with ⟨rfl, hl, e⟩ | ⟨hij, e⟩
    · cases e
      exact ⟨v, hσ, hi v hv⟩
    · exact h.at_ i t e
  · rcases set_at e1 with ⟨_, _, e⟩ | ⟨hj, e1⟩
    · cases e
    rcases set_at e2 with ⟨_, _, e⟩ | ⟨hk, e2⟩
    · cases e
    exact h.apart i k ds es p hik e1 e2
theorem Envs.lendA {i j : Nat} {q : Addr} {es : List D} (g : Good K m F H) (h : Envs K m H0 F H σ env) (he : env[i]? = some (some (.prv d))) (hij : i ≠ j) (hj : env[j]? = some (some (.frz (.ref q)))) (hq : Has q es d) (hf : Flats es) :
    Good K m (withAt F H d.ads) H ∧ Envs K m H0 (withAt F H d.ads) H σ ((env.set i (some (.frz d.er))).set j (some (.frz (.lst es)))) := by
  obtain ⟨v, hσ, ho, hn⟩ := h.at_ i _ he
  obtain ⟨g', ev'⟩ := h.lendAt g he fun v ho => own_er (fun a ha => (ho.at a ha).1.2.1) ho
  refine ⟨g', ev'.retype (by rw [List.getElem?_set_ne hij]; exact hj) fun u hu => ?_⟩
  cases hu
  obtain ⟨h1, us, h2, h3⟩ := hq.at ho
  exact .lst (withAt_i h1.2.1 hq.mem h2) ((own_flats h3 hf).mono withAt_l)
theorem Envs.putIt {i n : Nat} {p : Addr} {us : List V} {ds : List D} (h : Envs K m H0 F H σ env) (he : env[i]? = some (some (.prv (.own p ds)))) (hv : Own K (Fro m H0 F) F H v y) (hn : y.ads.Nodup) (hp : H p = some (.lst us)) (hx : ∀ (j : Nat) (t : Slot) (a : Addr), env[j]? = some (some t) → a ∈ t.ads → a ∉ y.ads) :
    Envs K m H0 F (upd H p (.lst (us.set n v))) σ (env.set i (some (.prv (.own p (ds.set n y))))) := by
  obtain ⟨u, hσ, ho, hnd⟩ := h.at_ i _ he
  have hm : p ∈ (D.own p ds).ads := List.mem_cons_self ..
  have hfr := (ho.at p hm).1
  have hpy : p ∉ y.ads := hx i _ p he hm
  obtain ⟨hnp, hnd2⟩ := List.nodup_cons.mp (show (p :: D.adsAll ds).Nodup from hnd)
  have hxd : ∀ a ∈ D.adsAll ds, a ∉ y.ads := fun a ha => hx i _ a he (List.mem_cons_of_mem _ ha)
  have nq : ∀ (j : Nat) (t : Slot), j ≠ i → env[j]? = some (some t) → p ∉ t.ads := fun j t hj ej => h.apt i j _ t p (Ne.symm hj) he ej hm
  have sub : ∀ a, a ∈ (D.own p (ds.set n y)).ads → a ∈ (D.own p ds).ads ∨ a ∈ y.ads := fun a ha => by
    rcases List.mem_cons.mp (show a ∈ p :: D.adsAll (ds.set n y) from ha) with rfl | ha
    · exact .inl hm
    · rcases adsAll_set ha with ha | ha
      · exact .inl (List.mem_cons_of_mem _ ha)
      · exact .inr ha
  refine ⟨fun j t e => ?_, by rw [List.length_set]; exact h.len, fun j k es fs r hjk e1 e2 => ?_, h.apt.put (fun j t a hj ej ha z => ?_) fun j t a hj ej ha z => ?_⟩
  · rcases set_at e with ⟨rfl, hl, e⟩ | ⟨hij, e⟩
    · cases e
      cases ho with
      | is ho => cases ho
      | own h1 h2 h3 =>
        rw [hp] at h2
        cases h2
        refine ⟨_, hσ, .own h1 upd_same (.set (hv.move (Same.refl _) fun a ha o hf ho => ⟨hf, (upd_ne fun z => hpy (by rw [← z]; exact ha)).trans ho⟩) _ (h3.move (Same.refl _) fun a ha o hf ho => ⟨hf, (upd_ne fun z => hnp (by rw [← z]; exact ha)).trans ho⟩)), ?_⟩
        show (p :: D.adsAll (ds.set n y)).Nodup
        refine List.nodup_cons.mpr ⟨fun z => ?_, adsAll_setN hnd2 hn hxd⟩
        rcases adsAll_set z with z | z
        · exact hnp z
        · exact hpy z
    · obtain ⟨u, h1, h2⟩ := h.at_ j t e
      refine ⟨u, h1, ?_⟩
      cases t with
      | frz d => exact h2
      | lent d =>
        rcases h2 with h2 | ⟨R, hR, h2⟩
        · exact .inl h2
        · refine .inr ⟨R, fun a o ea => ?_, h2⟩
          obtain ⟨h3, h4, o', h5⟩ := hR a o ea
          exact ⟨(upd_ne fun z => by rw [z, hfr.2.2] at h5; cases h5).trans h3, h4, o', h5⟩
      | prv t => exact ⟨h2.1.move (Same.refl _) fun a ha o hf ho => ⟨hf, (upd_ne fun (z : a = p) => nq j _ (Ne.symm hij) e (by rw [← z]; exact ha)).trans ho⟩, h2.2⟩
      | own r c =>
        obtain ⟨ho', e1, e2, e3, e4, e5, e6⟩ := h2
        exact ⟨ho', e1, e2, e3, e4, (upd_ne fun (z : r = p) => nq j _ (Ne.symm hij) e (by rw [← z]; exact List.mem_cons_self ..)).trans e5, e6⟩
  · rcases set_at e1 with ⟨_, _, e⟩ | ⟨hj, e1⟩
    · cases e
    rcases set_at e2 with ⟨_, _, e⟩ | ⟨hk, e2⟩
    · cases e
    exact h.apart j k es fs r hjk e1 e2
  · rcases sub a z with z | z
    · exact h.apt j i t _ a hj ej he ha z
    · refine hx j t a ej ?_ z
      cases t <;> first | exact ha | cases ha
  · rcases sub a ha with ha | ha
    · exact h.apt i j _ t a (Ne.symm hj) he ej ha z
    · exact hx j t a ej z ha
end
section
variable {X : Cx} {m : Option Mem} {env : Ev} {e b : Expr} {d : D} {R : DEnds} {pos p2 p3 : Pos} {x : Str}
theorem we_prvA (i j : Nat) {q : Addr} {es : List D} {P : D → Prop} (he : env[i]? = some (some (.prv d))) (hij : i ≠ j) (hj : env[j]? = some (some (.frz (.ref q)))) (hq : Has q es d) (hfl : Flats es) (hf : ∀ d, P d → ∃ w, DL.flat d = some w) (h : WE X m ((env.set i (some (.frz d.er))).set j (some (.frz (.lst es)))) e P) : WE X m env e P := by
  refine ⟨fun σ H0 F H k g ev t => ?_⟩
  obtain ⟨g', ev'⟩ := ev.lendA g he hij hj hq hfl
  refine h.run σ H0 _ H k g' ev' fun v d F' H' s hv hP => ?_
  obtain ⟨w, hw⟩ := hf d hP
  obtain rfl := hv.flat hw
  exact t _ d F H' (s.backM g) (is_flat hw) hP
/-- x[b] = e: a new tree in an own one -/
theorem ws_setItR (i : Nat) {p : Addr} {ds : List D} (hN : X.N[i]? = some x) (hv : Vis X.env.scope x) (hd : (x == ("__debug__" : Str)) = false) (hcd : (x == ("__classdict__" : Str)) = false) (he : env[i]? = some (some (.prv (.own p ds))))
    (hps : PS X (.Assign [.Subscript (.Name x p2) b p3] e pos) (tAsg (TEc X e) (gSub (tVar i) (TEc X b) rSetL)))
    (h : WR X m env e fun y => WE X m env b fun z => asInt z fun k => ∃ n, ixN ds.length k = some n ∧ R.nx (env.set i (some (.prv (.own p (ds.set n y)))))) : WS X m env (.Assign [.Subscript (.Name x p2) b p3] e pos) R := by
  refine ⟨fun σ F0 H0 Fl F H De W s oe => tsc hps ?_⟩
  refine h.run σ H0 F H _ s.good s.env fun w y F1 H1 s1 hw hn q1 => ?_
  obtain ⟨vi, hσi, hvi, _⟩ := s.env.at_ i _ he
  have e : vi = .ref p := by cases hvi with | is h => cases h | own _ _ _ => rfl
  subst e
  refine ⟨.ref p, hσi, ?_⟩
  have fr : ∀ a ∈ y.ads, H a = none := fun a ha => (hw.at a ha).1.1
  have sl : SlotOk X.K m H0 F1 H1 w (.prv y) := ⟨hw.move (Same.refl _) fun a _ o hf ho => ⟨⟨s.good.notm hf.1, hf.2, s.step.none0 hf.1⟩, ho⟩, hn⟩
  refine q1.run σ H0 F1 H1 _ s1.good (s.after s1).env fun z dz F2 H2 s2 hz q2 => ?_
  obtain ⟨k, rfl, rfl, n, hk, q2⟩ := hz.asInt q2
  have st := (s.after s1).after s2
  obtain ⟨hw2, hn2⟩ := sl.step s2
  obtain ⟨v2, hσ2, ho2, hnd2⟩ := st.env.at_ i _ he
  obtain ⟨hfr, us, hH2, hus⟩ := (Has.here (q := p) (es := ds)).at ho2
  refine ⟨p, us, k, n, rfl, rfl, hH2, by rw [hus.length]; exact hk, ?_⟩
  refine oe.nx _ _ F2 _ ⟨st.step.mut hfr.2.1 hfr.1 hfr.2.2, st.env.putIt he hw2 hn2 hH2 fun j t a ej ha z => ?_, st.fl⟩ q2
  obtain ⟨u, _, h2⟩ := s.env.at_ j t ej
  have : H a ≠ none := by
    cases t with
    | prv e => obtain ⟨_, o, ho⟩ := h2.1.at a ha; rw [ho]; exact fun z => nomatch z
    | own p c =>
      obtain ⟨o', _, _, _, _, e5, _⟩ := h2
      rw [List.mem_singleton.mp ha, e5]; exact fun z => nomatch z
    | frz _ => cases ha
    | lent _ => cases ha
  exact this (fr a z)
end
section
variable {X : Cx} {P : Program} {w : World} {K : PySem.W.Frag} {mg : Str → Option Value} {base : Heap} {N Vn L G B : List Str} {S : Scope} {k k2 n : Nat} {x : Str} {i j : Nat}
variable {m : Option Mem} {env : Ev} {b e : Expr} {pos p2 p3 : Pos} {R : DEnds}
theorem dl_setItR (dx : DX X P w K mg base N Vn L G S k) {p : Addr} {ds : List D} (h1 : At N i x) (h2 : At Vn j x) (he : env[i]? = some (some (.prv (.own p ds))))
    (ha : ∀ v, assign (.Subscript (.Name x p2) b p3) X.env v = (do
      let ov ← holding [v] (eval (.Name x p2) X.env)
      let iv ← holding [v, ov] (eval b X.env)
      standAt p3
      holding [v, ov, iv] (setItem ov iv v)
      release [v, ov, iv] []))
    (hs : swapsWithSole [.Subscript (.Name x p2) b p3] e pos.line X.env = pure false) (hw : swappedStores [.Subscript (.Name x p2) b p3] e X.env = pure none)
    (h1' : (assignEach [.Subscript (.Name x p2) b p3] X.env).map (·.2) = [assign (.Subscript (.Name x p2) b p3) X.env])
    (h : WR X m env e fun y => WE X m env b fun z => asInt z fun k => ∃ n, ixN ds.length k = some n ∧ R.nx (env.set i (some (.prv (.own p (ds.set n y)))))) : WS X m env (.Assign [.Subscript (.Name x p2) b p3] e pos) R :=
  let ⟨v, d1, d2⟩ := dx.v h2; ws_setItR i (dx.n h1) v d1 d2 he (ps_setIx (dx.n h1) v d1 d2 ha hs hw h1') h
end
end DL
set_option Elab.async false
set_option linter.all false
set_option maxRecDepth 100000
set_option autoImplicit false
/-! DL, part 29: a new tree that is made of what is lent; a new tree as data that stays. -/
namespace DL
open PySem L2
/-- lists in lists, with flat data in them -/
inductive Lf : D → Prop
  | flat {d : D} {w : V} : DL.flat d = some w → Lf d
  | own {p : Addr} {xs : List D} : (∀ x ∈ xs, Lf x) → Lf (.own p xs)
section
variable {K : PySem.W.Frag} {m : Option Mem} {F F' H H' : Hp} {Fr Fr' : Addr → Prop} {d : D}
theorem OwnAll.each (hf : ∀ x v, Own K Fr F H v x → Own K Fr' F' H v x) : ∀ {vs : List V} {ds : List D}, OwnAll K Fr F H vs ds → OwnAll K Fr' F' H vs ds
  | _, _, .nil => .nil
  | _, _, .cons h t => .cons (hf _ _ h) (OwnAll.each hf t)
theorem OwnAll.eachM : ∀ {vs : List V} {ds : List D}, (∀ x ∈ ds, ∀ v, Own K Fr F H v x → Own K Fr' F' H v x) → OwnAll K Fr F H vs ds → OwnAll K Fr' F' H vs ds
  | _, _, _, .nil => .nil
  | _, _, hf, .cons h t => .cons (hf _ (List.mem_cons_self ..) _ h) (OwnAll.eachM (fun x hx => hf x (List.mem_cons_of_mem _ hx)) t)
theorem Own.lf (hfr : ∀ a, Fr a → Fr' a) (hl : Lf d) : ∀ v, Own K Fr F H v d → Own K Fr' F' H v d := by
  induction hl with
  | flat hw =>
    intro v h
    cases h with
    | is h => obtain rfl := h.flat hw; exact .is (is_flat hw)
    | own _ _ _ => cases hw
    | owd _ _ _ _ => cases hw
    | owt _ _ => cases hw
  | own _ ih =>
    intro v h
    cases h with
    | is h => cases h
    | own h1 h2 h3 => exact .own (hfr _ h1) h2 (OwnAll.eachM ih h3)
theorem ThenR.ofM {P : D → Prop} {k : VK} (g : Good K m F H) (t : Then K m F H P k) : ThenR K m F H (fun d => P d.er) k := fun v d F' H' s hv hn hP => by
  have hf : ∀ a ∈ d.ads, F' a = none := fun a ha => (hv.at a ha).1.2
  refine t v d.er (withAt F' H' d.ads) H' ⟨s.fs.trans withAt_l, s.good.withAt (fun a ha => g.notm (hv.at a ha).1.1), fun a h1 h2 => ?_, s.keep⟩ (own_er hf hv) hP
  cases e : F' a with
  | some u => exact s.new a h1 (by rw [e]; exact fun z => nomatch z)
  | none =>
    by_cases ha : a ∈ d.ads
    · exact (hv.at a ha).1.1
    · exact absurd (withAt_n e ha) h2
end
section
variable {X : Cx} {m : Option Mem} {env : Ev} {e : Expr} {d : D}
theorem we_ofR {P : D → Prop} (h : WR X m env e fun d => P d.er) : WE X m env e P := ⟨fun σ H0 F H k g ev t => h.run σ H0 F H k g ev (ThenR.ofM g t)⟩
theorem wr_lent (i : Nat) {P : D → Prop} (he : env[i]? = some (some (.lent d))) (hf : ∀ d, P d → Lf d) (h : WR X none (env.set i (some (.frz d))) e P) : WR X m env e P := by
  refine ⟨fun σ H0 F H k g ev t => ?_⟩
  obtain ⟨F1, g', ev'⟩ := ev.lend g he
  refine h.run σ H0 _ H k g' ev' fun v d F' H' s hv hn hP => ?_
  refine t v d F H' (s.back g) (Own.lf (fun a ha => ⟨ha.1, ?_⟩) (hf d hP) v hv) hn hP
  cases e : F a with
  | none => rfl
  | some o => rw [g.sub a o e] at ha; cases ha.1
theorem wr_prv (i : Nat) {P : D → Prop} (he : env[i]? = some (some (.prv d))) (hf : ∀ d, P d → Lf d) (h : WR X m (env.set i (some (.frz d.er))) e P) : WR X m env e P := by
  refine ⟨fun σ H0 F H k g ev t => ?_⟩
  obtain ⟨g', ev'⟩ := ev.lendAt g he fun v ho => own_er (fun a ha => (ho.at a ha).1.2.1) ho
  refine h.run σ H0 _ H k g' ev' fun v d F' H' s hv hn hP => ?_
  refine t v d F H' (s.backM g) (Own.lf (fun a ha => ⟨ha.1, ?_⟩) (hf d hP) v hv) hn hP
  cases e : F a with
  | none => rfl
  | some o => rw [g.sub a o e] at ha; cases ha.1
end
end DL
set_option Elab.async false
set_option linter.all false
set_option maxRecDepth 100000
set_option autoImplicit false
/-! DL, part 30: the addresses of an own tree are unlike; flat data in a changed tree. -/
namespace DL
open PySem L2
section
variable {X : Cx} {m : Option Mem} {env : Ev} {d : D} {R : DEnds} {rest : List Stmt}
theorem wss_nd (i : Nat) (he : env[i]? = some (some (.prv d))) (h : d.ads.Nodup → WSs X m env rest R) : WSs X m env rest R :=
  ⟨fun σ F0 H0 Fl F H De W s o => by
    obtain ⟨v, _, _, hn⟩ := s.env.at_ i _ he
    exact (h hn).run σ F0 H0 Fl F H De W s o⟩
end
theorem flat_put {q : Addr} {ys : List D} {d : D} {w : V} (h : DL.flat d = some w) : d.put q ys = d := by cases d <;> first | rfl | cases h
theorem flats_put {q : Addr} {ys : List D} : ∀ {ds : List D}, Flats ds → D.putAll q ys ds = ds
  | [], _ => rfl
  | d :: ds, h => by
    obtain ⟨w, hw⟩ := h d (List.mem_cons_self ..)
    show d.put q ys :: D.putAll q ys ds = _
    rw [flat_put hw, flats_put fun e he => h e (List.mem_cons_of_mem _ he)]
theorem put_row {p q : Addr} {ys zs : List D} (h : Flats zs) : (D.own p zs).put q ys = if p = q then .own p ys else .own p zs := by
  show (if p = q then D.own p ys else .own p (D.putAll q ys zs)) = _
  rw [flats_put h]
theorem putAll_get {q : Addr} {ys : List D} : ∀ {ds : List D} {i : Nat}, (D.putAll q ys ds)[i]? = (ds[i]?).map (D.put q ys)
  | [], i => by simp [D.putAll]
  | d :: ds, 0 => rfl
  | d :: ds, i + 1 => by
    show (D.putAll q ys ds)[i]? = _
    rw [putAll_get]; rfl
theorem putAll_len {q : Addr} {ys : List D} : ∀ {ds : List D}, (D.putAll q ys ds).length = ds.length
  | [] => rfl
  | _ :: ds => congrArg (· + 1) (putAll_len (ds := ds))
theorem putAll_mem {q : Addr} {ys ds : List D} {d : D} (h : d ∈ D.putAll q ys ds) : ∃ e ∈ ds, d = e.put q ys := by
  obtain ⟨i, hi⟩ := List.getElem?_of_mem h
  rw [putAll_get] at hi
  cases e : ds[i]? with
  | none => rw [e] at hi; cases hi
  | some x => rw [e] at hi; cases hi; exact ⟨x, List.mem_of_getElem? e, rfl⟩
theorem nmAll_mem {ds : List D} {d : D} (h : d ∈ D.nmAll ds) : ∃ e ∈ ds, d = e.nm := by
  obtain ⟨i, hi⟩ := List.getElem?_of_mem h
  rw [nmAll_get] at hi
  cases e : ds[i]? with
  | none => rw [e] at hi; cases hi
  | some x => rw [e] at hi; cases hi; exact ⟨x, List.mem_of_getElem? e, rfl⟩
/-- the list's own row is at another address -/
theorem nd_ne {p q : Addr} {es zs : List D} (h : (D.own p es).ads.Nodup) (hm : D.own q zs ∈ es) : p ≠ q := fun e => by
  subst e
  exact (List.nodup_cons.mp (show (p :: D.adsAll es).Nodup from h)).1 (adsAll_mem (List.mem_cons_self ..) hm)
/-- a table of rows of flat data -/
def Rows (es : List D) : Prop := ∀ e ∈ es, ∃ (q : Addr) (zs : List D), e = .own q zs ∧ Flats zs ∧ 1 ≤ zs.length
theorem Rows.put {q : Addr} {ys es : List D} (h : Rows es) (hy : Flats ys) (h1 : 1 ≤ ys.length) : Rows (D.putAll q ys es) := fun e he => by
  obtain ⟨x, hx, rfl⟩ := putAll_mem he
  obtain ⟨p, zs, rfl, hf, h3⟩ := h x hx
  rw [put_row hf]
  split
  · exact ⟨_, _, rfl, hy, h1⟩
  · exact ⟨_, _, rfl, hf, h3⟩
end DL
set_option Elab.async false
set_option linter.all false
set_option maxRecDepth 100000
set_option autoImplicit false
set_option maxHeartbeats 1000000
/-! DL, part 31: dicts with int and text keys: read, made, filled, a row taken out; loops over pairs and enumerate; `in` of a list; a list as a test. -/
namespace DL
open PySem L2
/-! ### dicts by their keys and their data -/
def keyD : D → Option Key | .int i => some (.inl i) | .str x => some (.inr x) | _ => none
theorem Is.key {K : PySem.W.Frag} {F : Hp} {v : V} {d : D} {k : Key} (h : Is K F v d) (hk : keyD d = some k) : v = kV k := by
  cases h <;> first | (cases hk; rfl) | cases hk
def dget : List Key → List D → Key → Option D
  | k :: ks, x :: xs, key => if k = key then some x else dget ks xs key
  | _, _, _ => none
theorem dget_val {K : PySem.W.Frag} {F : Hp} {key : Key} : ∀ {kvs : List (Key × V)} {xs : List D}, IsAll K F (kvs.map (·.2)) xs → (valV kvs key = none ∧ dget (kvs.map (·.1)) xs key = none) ∨ ∃ v d, valV kvs key = some v ∧ dget (kvs.map (·.1)) xs key = some d ∧ Is K F v d
  | [], _, h => by cases h; exact .inl ⟨rfl, rfl⟩
  | (k, v) :: kvs, _, h => by
    cases h with
    | cons h t =>
      rename_i d ds
      by_cases e : k = key
      · exact .inr ⟨v, d, valV_pos e, if_pos e, h⟩
      · rcases dget_val (key := key) t with ⟨h1, h2⟩ | ⟨v', d', h1, h2, h3⟩
        · exact .inl ⟨(valV_neg e).trans h1, (if_neg e).trans h2⟩
        · exact .inr ⟨v', d', (valV_neg e).trans h1, (if_neg e).trans h2, h3⟩
theorem dget_own {K : PySem.W.Frag} {Fr : Addr → Prop} {F H : Hp} {key : Key} : ∀ {kvs : List (Key × V)} {xs : List D}, OwnAll K Fr F H (kvs.map (·.2)) xs → (valV kvs key = none ∧ dget (kvs.map (·.1)) xs key = none) ∨ ∃ v d, valV kvs key = some v ∧ dget (kvs.map (·.1)) xs key = some d ∧ Own K Fr F H v d ∧ d.ads.Sublist (D.adsAll xs)
  | [], _, h => by cases h; exact .inl ⟨rfl, rfl⟩
  | (k, v) :: kvs, _, h => by
    cases h with
    | cons h t =>
      rename_i d ds
      by_cases e : k = key
      · exact .inr ⟨v, d, valV_pos e, if_pos e, h, List.sublist_append_left _ _⟩
      · rcases dget_own (key := key) t with ⟨h1, h2⟩ | ⟨v', d', h1, h2, h3, h4⟩
        · exact .inl ⟨(valV_neg e).trans h1, (if_neg e).trans h2⟩
        · exact .inr ⟨v', d', (valV_neg e).trans h1, (if_neg e).trans h2, h3, h4.trans (List.sublist_append_right _ _)⟩
section
variable {X : Cx} {m : Option Mem} {env : Ev} {a b c e o iter elt tg : Expr} {es : List Expr} {P : D → Prop} {R : DEnds} {pos p2 p3 p4 p5 : Pos} {x y : Str}
theorem we_notInDic (hu : X.A.units + 1 < cLine) (hm : behindInMarks .NotIn b = false) (w : WE X m env a fun y => WE X m env b fun x => ∃ ks xs k, x = .dic ks xs ∧ keyD y = some k ∧ P (.bl (dget ks xs k).isNone)) : WE X m env (.Compare a [.NotIn] [b] pos) P := by
  refine ⟨fun σ H0 F H kk g ev t => tec (pe_cmp (pc_dnotin hu pe_can pe_can) hm) ?_⟩
  refine w.run σ H0 F H _ g ev fun v y F1 H1 s1 hv q => ?_
  refine q.run σ H0 F1 H1 _ s1.good (ev.step s1) fun u x F2 H2 s2 hx q2 => ?_
  obtain ⟨ks, xs, k, rfl, hk, hP⟩ := q2
  obtain rfl := hv.key hk
  cases hx with
  | dic h1 h2 h3 =>
    subst h2
    refine ⟨_, _, rfl, DGet.k (s2.good.sub _ _ h1), ?_⟩
    rcases dget_val (key := k) h3 with ⟨e1, e2⟩ | ⟨v', d', e1, e2, _⟩
    · rw [e1]; rw [e2] at hP; exact ((t.after s1).after s2).at s2.good (.bl _) hP
    · rw [e1]; rw [e2] at hP; exact ((t.after s1).after s2).at s2.good (.bl _) hP
theorem we_inDic (hu : X.A.units + 1 < cLine) (hm : behindInMarks .In b = false) (w : WE X m env a fun y => WE X m env b fun x => ∃ ks xs k, x = .dic ks xs ∧ keyD y = some k ∧ P (.bl (dget ks xs k).isSome)) : WE X m env (.Compare a [.In] [b] pos) P := by
  refine ⟨fun σ H0 F H kk g ev t => tec (pe_cmp (pc_din hu pe_can pe_can) hm) ?_⟩
  refine w.run σ H0 F H _ g ev fun v y F1 H1 s1 hv q => ?_
  refine q.run σ H0 F1 H1 _ s1.good (ev.step s1) fun u x F2 H2 s2 hx q2 => ?_
  obtain ⟨ks, xs, k, rfl, hk, hP⟩ := q2
  obtain rfl := hv.key hk
  cases hx with
  | dic h1 h2 h3 =>
    subst h2
    refine ⟨_, _, rfl, DGet.k (s2.good.sub _ _ h1), ?_⟩
    rcases dget_val (key := k) h3 with ⟨e1, e2⟩ | ⟨v', d', e1, e2, _⟩
    · rw [e1]; rw [e2] at hP; exact ((t.after s1).after s2).at s2.good (.bl _) hP
    · rw [e1]; rw [e2] at hP; exact ((t.after s1).after s2).at s2.good (.bl _) hP
/-- d[k] -/
theorem we_dget (hu : X.A.units + 1 < cLine) (hs : NoSl e) (w : WE X m env o fun x => WE X m env e fun y => ∃ ks xs k d, x = .dic ks xs ∧ keyD y = some k ∧ dget ks xs k = some d ∧ P d) : WE X m env (.Subscript o e pos) P := by
  refine ⟨fun σ H0 F H kk g ev t => tec (pe_dget hu pe_can pe_can hs) ?_⟩
  refine w.run σ H0 F H _ g ev fun u x F1 H1 s1 hx q => ?_
  refine q.run σ H0 F1 H1 _ s1.good (ev.step s1) fun v y F2 H2 s2 hv q2 => ?_
  obtain ⟨ks, xs, k, d, rfl, hk, hd, hP⟩ := q2
  obtain rfl := hv.key hk
  cases hx with
  | dic h1 h2 h3 =>
    subst h2
    rcases dget_val (key := k) h3 with ⟨e1, e2⟩ | ⟨v', d', e1, e2, iv⟩
    · rw [hd] at e2; cases e2
    · rw [hd] at e2
      cases e2
      refine ⟨_, v', rfl, ?_, ((t.after s1).after s2).at s2.good (iv.mono s2.fs) hP⟩
      rw [← e1]
      exact DGet.k (s2.good.sub _ _ (s2.fs _ _ h1))
/-! ### made and filled -/
/-- {k: e} -/
theorem wr_dict1 {P : D → Prop} (w : WE X m env a fun y => ∃ k, keyD y = some k ∧ WR X m env b fun d => ∀ p, P (.owd p [k] [d])) : WR X m env (.Dict [some a] [b] pos) P := by
  refine ⟨fun σ H0 F H kk g ev t => tec (pe_disp (pps_cons pe_can pe_can pps_nil) rfl rfl (by simp) (by simp)) fun p hp => ?_⟩
  have s0 : Step X.K m F H F (upd H p (.dK [])) := Step.mut (.refl g) (g.noF hp) (g.notm hp) hp
  refine w.run σ H0 F _ _ s0.good (ev.step s0) fun v y F1 H1 s1 hv q => ?_
  obtain ⟨k, hk, q⟩ := q
  obtain rfl := hv.key hk
  have st1 := s0.trans s1
  refine q.run σ H0 F1 H1 _ s1.good ((ev.step s0).step s1) fun u d F2 H2 s2 hu hn hP => ?_
  have st := st1.trans s2
  have hm := g.notm hp
  have hp1 : H1 p = some (.dK []) := s1.keep p _ hm upd_same
  have hp2 : H2 p = some (.dK []) := s2.keep p _ hm hp1
  have hF1 := s1.noF (g.noF hp) ⟨_, upd_same⟩
  have hF2 := s2.noF hF1 ⟨_, hp1⟩
  have ne : ∀ a ∈ d.ads, a ≠ p := fun a ha z => by
    have := (hu.at a ha).1.1
    rw [z, hp1] at this; cases this
  refine ⟨hp2, [(k, u)], rfl, by simp, ?_⟩
  refine t _ (.owd p [k] [d]) F2 _ (st.mut hF2 hm hp) (.owd (kvs := [(k, u)]) ⟨hp, hF2⟩ ?_ rfl (.cons ?_ .nil)) ?_ (hP p)
  · exact upd_same
  · exact hu.move (Same.refl _) fun a ha o hf ho => ⟨⟨fresh_before st1 g hf.1, hf.2⟩, (upd_ne (ne a ha)).trans ho⟩
  · show (p :: (d.ads ++ [])).Nodup
    rw [List.append_nil]
    exact List.nodup_cons.mpr ⟨fun z => ne p z rfl, hn⟩
end
end DL
set_option Elab.async false
set_option linter.all false
set_option maxRecDepth 100000
set_option autoImplicit false
set_option maxHeartbeats 1000000
/-! DL, part 32: x[k] = e of an own dict; a row taken out of a new dict; sorted(dict); loops with two targets; a list as a test; not in a list. -/
namespace DL
open PySem L2
theorem adsAll_snoc {xs : List D} {y : D} : D.adsAll (xs ++ [y]) = D.adsAll xs ++ y.ads := by
  rw [adsAll_app]
  show _ ++ (y.ads ++ []) = _
  rw [List.append_nil]
theorem OwnAll.snoc {K : PySem.W.Frag} {Fr : Addr → Prop} {F H : Hp} {v : V} {y : D} (h : Own K Fr F H v y) : ∀ {vs : List V} {xs : List D}, OwnAll K Fr F H vs xs → OwnAll K Fr F H (vs ++ [v]) (xs ++ [y])
  | _, _, .nil => .cons h .nil
  | _, _, .cons h1 t => .cons h1 (OwnAll.snoc h t)
theorem putK_new {kvs : List (Key × V)} {k : Key} {v : V} (h : valV kvs k = none) : putK kvs k v = kvs ++ [(k, v)] := by
  have : (kvs.any fun kv => decide (kv.1 = k)) = false := by
    induction kvs with
    | nil => rfl
    | cons p r ih =>
      by_cases e : p.1 = k
      · rw [valV_pos e] at h; cases h
      · rw [valV_neg e] at h
        rw [List.any_cons, ih h, Bool.or_false]
        exact decide_eq_false e
  unfold putK
  rw [this]
  exact if_neg Bool.false_ne_true
section
variable {K : PySem.W.Frag} {m : Option Mem} {F F' H H' H0 : Hp} {env : Ev} {σ : L2.St} {y : D} {v : V}
theorem Envs.putKey {i : Nat} {p : Addr} {kvs : List (Key × V)} {ks : List Key} {xs : List D} {k : Key} (h : Envs K m H0 F H σ env) (he : env[i]? = some (some (.prv (.owd p ks xs)))) (hv : Own K (Fro m H0 F) F H v y) (hn : y.ads.Nodup) (hp : H p = some (.dK kvs)) (hx : ∀ (j : Nat) (t : Slot) (a : Addr), env[j]? = some (some t) → a ∈ t.ads → a ∉ y.ads) :
    Envs K m H0 F (upd H p (.dK (kvs ++ [(k, v)]))) σ (env.set i (some (.prv (.owd p (ks ++ [k]) (xs ++ [y]))))) := by
  obtain ⟨u, hσ, ho, hnd⟩ := h.at_ i _ he
  have hm : p ∈ (D.owd p ks xs).ads := List.mem_cons_self ..
  have hfr := (ho.at p hm).1
  have hpy : p ∉ y.ads := hx i _ p he hm
  obtain ⟨hnp, hnd2⟩ := List.nodup_cons.mp (show (p :: D.adsAll xs).Nodup from hnd)
  have hxd : ∀ a ∈ D.adsAll xs, a ∉ y.ads := fun a ha => hx i _ a he (List.mem_cons_of_mem _ ha)
  have nq : ∀ (j : Nat) (t : Slot), j ≠ i → env[j]? = some (some t) → p ∉ t.ads := fun j t hj ej => h.apt i j _ t p (Ne.symm hj) he ej hm
  have sub : ∀ a, a ∈ (D.owd p (ks ++ [k]) (xs ++ [y])).ads → a ∈ (D.owd p ks xs).ads ∨ a ∈ y.ads := fun a ha => by
    have ha' : a ∈ p :: D.adsAll (xs ++ [y]) := ha
    rw [adsAll_snoc] at ha'
    rcases List.mem_cons.mp ha' with rfl | ha
    · exact .inl hm
    · rcases List.mem_append.mp ha with ha | ha
      · exact .inl (List.mem_cons_of_mem _ ha)
      · exact .inr ha
  refine ⟨fun j t e => ?_, by rw [List.length_set]; exact h.len, fun j k es fs r hjk e1 e2 => ?_, h.apt.put (fun j t a hj ej ha z => ?_) fun j t a hj ej ha z => ?_⟩
  · rcases set_at e with ⟨rfl, hl, e⟩ | ⟨hij, e⟩
    · cases e
      cases ho with
      | is ho => cases ho
      | owd h1 h2 h3 h4 =>
        rw [hp] at h2
        cases h2
        refine ⟨_, hσ, .owd (kvs := kvs ++ [(k, v)]) h1 upd_same (by rw [List.map_append, h3]; rfl) ?_, ?_⟩
        · rw [List.map_append]
          exact OwnAll.snoc (hv.move (Same.refl _) fun a ha o hf ho => ⟨hf, (upd_ne fun z => hpy (by rw [← z]; exact ha)).trans ho⟩) (h4.move (Same.refl _) fun a ha o hf ho => ⟨hf, (upd_ne fun z => hnp (by rw [← z]; exact ha)).trans ho⟩)
        · show (p :: D.adsAll (xs ++ [y])).Nodup
          rw [adsAll_snoc]
          refine List.nodup_cons.mpr ⟨fun z => ?_, List.nodup_append.mpr ⟨hnd2, hn, fun a ha b hb e => by subst e; exact hxd _ ha hb⟩⟩
          rcases List.mem_append.mp z with z | z
          · exact hnp z
          · exact hpy z
    · obtain ⟨u, h1, h2⟩ := h.at_ j t e
      refine ⟨u, h1, ?_⟩
      cases t with
      | frz d => exact h2
      | lent d =>
        rcases h2 with h2 | ⟨R, hR, h2⟩
        · exact .inl h2
        · refine .inr ⟨R, fun a o ea => ?_, h2⟩
          obtain ⟨h3, h4, o', h5⟩ := hR a o ea
          exact ⟨(upd_ne fun z => by rw [z, hfr.2.2] at h5; cases h5).trans h3, h4, o', h5⟩
      | prv t => exact ⟨h2.1.move (Same.refl _) fun a ha o hf ho => ⟨hf, (upd_ne fun (z : a = p) => nq j _ (Ne.symm hij) e (by rw [← z]; exact ha)).trans ho⟩, h2.2⟩
      | own r c =>
        obtain ⟨ho', e1, e2, e3, e4, e5, e6⟩ := h2
        exact ⟨ho', e1, e2, e3, e4, (upd_ne fun (z : r = p) => nq j _ (Ne.symm hij) e (by rw [← z]; exact List.mem_cons_self ..)).trans e5, e6⟩
  · rcases set_at e1 with ⟨_, _, e⟩ | ⟨hj, e1⟩
    · cases e
    rcases set_at e2 with ⟨_, _, e⟩ | ⟨hk, e2⟩
    · cases e
    exact h.apart j _ es fs r hjk e1 e2
  · rcases sub a z with z | z
    · exact h.apt j i t _ a hj ej he ha z
    · refine hx j t a ej ?_ z
      cases t <;> first | exact ha | cases ha
  · rcases sub a ha with ha | ha
    · exact h.apt i j _ t a (Ne.symm hj) he ej ha z
    · exact hx j t a ej z ha
theorem slot_some {env : Ev} {j : Nat} {t : Slot} {a : Addr} (h : Envs K m H0 F H σ env) (ej : env[j]? = some (some t)) (ha : a ∈ t.ads) : H a ≠ none := by
  obtain ⟨u, _, h2⟩ := h.at_ j t ej
  cases t with
  | prv e => obtain ⟨_, o, ho⟩ := h2.1.at a ha; rw [ho]; exact fun z => nomatch z
  | own p c =>
    obtain ⟨o', _, _, _, _, e5, _⟩ := h2
    rw [List.mem_singleton.mp ha, e5]; exact fun z => nomatch z
  | frz _ => cases ha
  | lent _ => cases ha
end
section
variable {X : Cx} {m : Option Mem} {env : Ev} {a b c e o iter elt tg : Expr} {es : List Expr} {P : D → Prop} {R : DEnds} {pos p2 p3 p4 p5 apos cpos : Pos} {x y : Str} {body : List Stmt}
/-- x[b] = e: a new key -/
theorem ws_setKeyR (i : Nat) {p : Addr} {ks : List Key} {xs : List D} (hu : X.A.units + 1 < cLine) (hN : X.N[i]? = some x) (hv : Vis X.env.scope x) (hd : (x == ("__debug__" : Str)) = false) (hcd : (x == ("__classdict__" : Str)) = false) (he : env[i]? = some (some (.prv (.owd p ks xs))))
    (hs : swapsWith e (some (.Subscript (.Name x p2) b p3)) pos.line X.env = pure false)
    (h : WR X m env e fun y => WE X m env b fun z => ∃ k, keyD z = some k ∧ dget ks xs k = none ∧ xs.length < 1000000 ∧ R.nx (env.set i (some (.prv (.owd p (ks ++ [k]) (xs ++ [y])))))) : WS X m env (.Assign [.Subscript (.Name x p2) b p3] e pos) R := by
  refine ⟨fun σ F0 H0 Fl F H De W s oe => tsc (ps_dput hu (pe_var hN hv hd hcd) pe_can pe_can hs) ?_⟩
  refine h.run σ H0 F H _ s.good s.env fun w y F1 H1 s1 hw hn q1 => ?_
  obtain ⟨vi, hσi, hvi, _⟩ := s.env.at_ i _ he
  have e : vi = .ref p := by cases hvi with | is h => cases h | owd _ _ _ _ => rfl
  subst e
  refine ⟨.ref p, hσi, ?_⟩
  have fr : ∀ a ∈ y.ads, H a = none := fun a ha => (hw.at a ha).1.1
  have sl : SlotOk X.K m H0 F1 H1 w (.prv y) := ⟨hw.move (Same.refl _) fun a _ o hf ho => ⟨⟨s.good.notm hf.1, hf.2, s.step.none0 hf.1⟩, ho⟩, hn⟩
  refine q1.run σ H0 F1 H1 _ s1.good (s.after s1).env fun z dz F2 H2 s2 hz q2 => ?_
  obtain ⟨k, hk, hg, hl, q2⟩ := q2
  obtain rfl := hz.key hk
  have st := (s.after s1).after s2
  obtain ⟨hw2, hn2⟩ := sl.step s2
  obtain ⟨v2, hσ2, ho2, hnd2⟩ := st.env.at_ i _ he
  cases ho2 with
  | is h => cases h
  | owd h1 h2 h3 h4 =>
    rename_i kvs
    have hval : valV kvs k = none := by
      subst h3
      rcases dget_own (key := k) h4 with ⟨e1, e2⟩ | ⟨v', d', e1, e2, _⟩
      · exact e1
      · rw [hg] at e2; cases e2
    have hlen : kvs.length = xs.length := by
      have := h4.length
      rwa [List.length_map] at this
    refine ⟨p, _, rfl, DPut.k h2 (by rw [hlen, sizeLine_eq]; omega), ?_⟩
    rw [putK_new hval]
    refine oe.nx _ _ F2 _ ⟨st.step.mut h1.2.1 h1.1 h1.2.2, st.env.putKey he hw2 hn2 h2 fun j t a ej ha z => ?_, st.fl⟩ q2
    exact slot_some s.env ej ha (fr a z)
/-- o.get(e), o a new dict: what stands there, for itself -/
theorem wr_get (hu : X.A.units + 1 < cLine) (mm : M1 X o "get" apos e cpos) (w : WR X m env o fun d => ∃ p ks xs, d = .owd p ks xs ∧ WE X m env e fun y => ∃ k, keyD y = some k ∧ P ((dget ks xs k).getD .non)) : WR X m env (.Call (.Attribute o "get" apos) [e] [] cpos) P := by
  refine ⟨fun σ H0 F H kk g ev t => tec (pe_dget1 hu pe_can pe_can mm) ?_⟩
  refine w.run σ H0 F H _ g ev fun u d F1 H1 s1 hu' hn q => ?_
  obtain ⟨p, ks, xs, rfl, q⟩ := q
  have sl : SlotOk X.K m H F1 H1 u (.prv (.owd p ks xs)) := ⟨hu'.move (Same.refl _) fun a _ o hf ho => ⟨⟨g.notm hf.1, hf.2, hf.1⟩, ho⟩, hn⟩
  have eu : u = .ref p := by cases hu' with | is h => cases h | owd _ _ _ _ => rfl
  have hd : ∃ kvs, H1 p = some (.dK kvs) := by cases hu' with | is h => cases h | owd h1 h2 h3 h4 => exact ⟨_, h2⟩
  subst eu
  obtain ⟨kvs, hkv⟩ := hd
  refine ⟨p, rfl, .inl ⟨kvs, .of hkv⟩, ?_⟩
  refine q.run σ H0 F1 H1 _ s1.good (ev.step s1) fun v y F2 H2 s2 hv q2 => ?_
  obtain ⟨k, hk, hP⟩ := q2
  obtain rfl := hv.key hk
  obtain ⟨ho, hn2⟩ := sl.step s2
  cases ho with
  | is h => cases h
  | owd h1 h2 h3 h4 =>
    subst h3
    refine ⟨_, DGet.k h2, ?_⟩
    rcases dget_own (key := k) h4 with ⟨e1, e2⟩ | ⟨v', d', e1, e2, ho', hsub⟩
    · rw [e1]; rw [e2] at hP
      exact t .non .non F2 H2 (s1.trans s2) (.is .non) List.Pairwise.nil hP
    · rw [e1]; rw [e2] at hP
      refine t v' d' F2 H2 (s1.trans s2) (ho'.move (Same.refl _) fun a _ o hf ho => ⟨⟨hf.2.2, hf.2.1⟩, ho⟩) ?_ hP
      exact (List.nodup_cons.mp (show (p :: D.adsAll xs).Nodup from hn2)).2.sublist hsub
theorem cl_sortedD {K : PySem.W.Frag} {ds : List D} {P : List D → Prop} (q : as1 ds fun x => ∃ (ks : List Int) (xs : List D), x = .dic (ks.map Sum.inl) xs ∧ ks.length < 64 ∧ ∀ ms : List Int, ms.Perm ks → ms.Pairwise (· ≤ ·) → P (ms.map D.int)) : CL K m (fun xs H Q => ∃ (a : Addr) (kvs : List (Key × V)) (ks : List Int), xs = [.ref a] ∧ Rd H a (.dK kvs) ∧ kvs.map (·.1) = ks.map Sum.inl ∧ ks.length < 64 ∧
    ∀ (ys : List Int) (p : Addr), ys.Perm ks → ys.Pairwise (· ≤ ·) → H p = none → Q (.ref p) (upd H p (.lst (ys.map V.int)))) ds P := by
  refine ⟨fun F H vs k g hvs t => ?_⟩
  obtain ⟨v, d, rfl, rfl, hv, ks, xs, rfl, hl, q'⟩ := hvs.as1 q
  cases hv with
  | dic h1 h2 h3 => exact ⟨_, _, ks, rfl, .of (g.sub _ _ h1), h2, hl, fun ms p hp1 hp2 hn => t.laid g hn (isAll_ints ms) (q' ms hp1 hp2)⟩
/-! ### a list as a test -/
theorem wt_lst {P : Bool → Prop} (w : WE X m env e fun x => asLst x fun ds => P (!ds.isEmpty)) (he : ∀ whole, isTrue e X.env whole = (do let v ← whole; standAt e.pos; holding [v] (truthy v))) : WT X m env e P := by
  refine ⟨fun σ H0 F H k g ev t => ttc (pt_truth pe_can he) ?_⟩
  refine w.run σ H0 F H _ g ev fun v d F1 H1 s1 hv q => ?_
  obtain ⟨p, xs, ds, rfl, rfl, h1, h2, q⟩ := hv.asLst q
  refine ⟨!xs.isEmpty, .inl ⟨xs, .of (s1.good.sub _ _ h1), rfl⟩, ?_⟩
  have : xs.isEmpty = ds.isEmpty := by
    have := h2.length
    cases xs <;> cases ds <;> first | rfl | simp at this
  rw [this]
  exact (t.after s1).at s1.good q
theorem any_py {x : D} : ∀ {ds : List D}, ((D.pyAll ds).any fun z => PyData.eqv z x.py) = ds.any fun z => z.eq x
  | [] => rfl
  | d :: ds => by
    show (PyData.eqv d.py x.py || (D.pyAll ds).any _) = (d.eq x || ds.any _)
    rw [any_py]; rfl
theorem we_notInL (hu : X.A.units + 65 < cLine) (hm : behindInMarks .NotIn b = false) (w : WE X m env a fun x => WE X m env b fun y => asLst y fun ds => x.ok 64 = true ∧ (D.lst ds).ok 64 = true ∧ P (.bl (!ds.any fun z => z.eq x))) : WE X m env (.Compare a [.NotIn] [b] pos) P := by
  refine we_tOp (pe_cmpR (op_notInD hu) pe_can pe_can hm) rfl (w.mono fun x h => h.mono fun y q => ⟨fun F H v w k g hv hw t => ?_⟩)
  cases y <;> first | exact q.elim | skip
  obtain ⟨o1, o2, q⟩ := q
  rename_i ds
  refine ⟨_, D.pyAll ds, hv.dp g.sub 64 x v o1, ?_, D.shaped o1, ?_, ?_⟩
  · have := hw.dp g.sub 64 _ w o2
    rwa [D.py] at this
  · have := D.shaped o2
    rwa [D.py] at this
  · rw [any_py]
    exact t.at g (.bl _) q
/-! ### loops with two targets -/
theorem ws_for2 {x1 x2 : Str} {pt q1 q2 : Pos} {k0 : Nat} (t u : Nat) (hp : PassesOwn (model X.prog X.w) X.A X.env X.xe) (hc : X.calm = true) (pg1 : PG X (.Name x1 q1) (gName t)) (pg2 : PG X (.Name x2 q2) (gName u)) (hs : ∀ y, foldedSetIterable iter X.env y = pure y)
    (h : WE X m env iter fun d => asLst d fun ds => ∃ I : Nat → Ev → Prop, I 0 env ∧
      (∀ (i : Nat) (d : D) (env' : Ev), ds[i]? = some d → I i env' → ∃ d1 d2, d = .tup [d1, d2] ∧ WSs X m ((env'.set t (some (.frz d1))).set u (some (.frz d2))) body { nx := I (i + 1), ct := I (i + 1), bk := R.nx, rt := R.rt, ex := R.ex, ro := R.ro }) ∧ ∀ env', I ds.length env' → R.nx env') :
    WS X m env (.For (.Tuple [.Name x1 q1, .Name x2 q2] k0 pt) iter body [] pos) R := by
  refine ⟨fun σ F0 H0 Fl F H De W s o => tsc (ps_for hp hc (pi_list pe_can) (pg_tup hc (pgs_cons pg1 (pgs_cons pg2 pgs_nil)) rfl rfl) pss_can hs) ?_⟩
  refine h.run σ H0 F H _ s.good s.env fun v d F1 H1 s1 hv q => ?_
  obtain ⟨p, xs, ds, rfl, rfl, h1, h2, I, i0, turn, fin⟩ := hv.asLst q
  refine ⟨p, rfl, ⟨xs, .of (s1.good.sub _ _ h1)⟩, ?_⟩
  refine for_list (K := X.K) (a := p) (xs := xs) (fun i σ H => ∃ F' env', Sta X.K m F0 H0 F1 F' H σ env' ∧ I i env') ⟨F1, env, ⟨s.step.trans s1, s.env.step s1, Same.refl _⟩, i0⟩ (fun i σ H hi ⟨F', env', s', _⟩ => .of (s'.good.sub _ _ (s'.fl _ _ h1))) (fun i v σ H hi ⟨F', env', s', hI⟩ => ?_) fun σ H ⟨F', env', s', hI⟩ => ?_
  · obtain ⟨d, hd, iv⟩ := h2.getV hi
    obtain ⟨d1, d2, rfl, tb⟩ := turn i d env' hd hI
    have iv' := iv.mono s'.fl
    cases iv' with
    | tup g1 g2 =>
      cases g2 with
      | cons i1 r1 =>
        cases r1 with
        | cons i2 r2 =>
          cases r2
          rename_i a _ _
          refine ⟨_, _, rfl, .of (s'.good.sub _ _ g1), rfl, _, _, rfl, _, _, rfl, rfl, ?_⟩
          refine tb.run _ F0 H0 F1 F' H _ W ⟨s'.step, (s'.env.frz i1).frz i2, s'.fl⟩ ?_
          exact ⟨fun σ env F2 H2 s2 w => ⟨F2, env, s2, w⟩, fun v d σ env F2 H2 s2 => o.rt v d σ env F2 H2 (s2.floor (s.fl.trans s1.fs)), fun σ env F2 H2 s2 w => o.nx σ env F2 H2 (s2.floor (s.fl.trans s1.fs)) w, fun σ env F2 H2 s2 w => ⟨F2, env, s2, w⟩, o.tk, fun σ env F2 H2 C d fs s2 => o.ex σ env F2 H2 C d fs (s2.floor (s.fl.trans s1.fs)), fun v d σ env F2 H2 s2 => o.ro v d σ env F2 H2 (s2.floor (s.fl.trans s1.fs))⟩
  · exact o.nx σ env' F' H (s'.floor (s.fl.trans s1.fs)) (fin env' (by rw [← h2.length]; exact hI))
/-- for i, x in enumerate(list) -/
theorem ws_forE {x1 x2 : Str} {pt q1 q2 pr : Pos} {k0 : Nat} (t u : Nat) (hp : PassesOwn (model X.prog X.w) X.A X.env X.xe) (hc : X.calm = true) (pg1 : PG X (.Name x1 q1) (gName t)) (pg2 : PG X (.Name x2 q2) (gName u)) (hrg : Gl X "enumerate") (hrm : X.mg "enumerate" = none) (hst : starEach [a] X.env = [(false, eval a X.env)]) (hs : ∀ y, foldedSetIterable (.Call (.Name "enumerate" p3) [a] [] pr) X.env y = pure y)
    (h : WE X m env a fun d => asLst d fun ds => ∃ I : Nat → Ev → Prop, I 0 env ∧
      (∀ (i : Nat) (d : D) (env' : Ev), ds[i]? = some d → I i env' → WSs X m ((env'.set t (some (.frz (.int i)))).set u (some (.frz d))) body { nx := I (i + 1), ct := I (i + 1), bk := R.nx, rt := R.rt, ex := R.ex, ro := R.ro }) ∧ ∀ env', I ds.length env' → R.nx env') :
    WS X m env (.For (.Tuple [.Name x1 q1, .Name x2 q2] k0 pt) (.Call (.Name "enumerate" p3) [a] [] pr) body [] pos) R := by
  refine ⟨fun σ F0 H0 Fl F H De W s o => tsc (ps_for hp hc (pi_enum hrg hrm (pa_cons pe_can pa_nil hst) hst) (pg_tup hc (pgs_cons pg1 (pgs_cons pg2 pgs_nil)) rfl rfl) pss_can hs) ?_⟩
  refine h.run σ H0 F H _ s.good s.env fun v d F1 H1 s1 hv q => ?_
  obtain ⟨p, xs, ds, rfl, rfl, h1, h2, I, i0, turn, fin⟩ := hv.asLst q
  refine ⟨p, xs, rfl, .of (s1.good.sub _ _ h1), ?_⟩
  refine for_it (walk_enum (xs := xs)) (fun i σ H => ∃ F' env', Sta X.K m F0 H0 F1 F' H σ env' ∧ I i env') ⟨F1, env, ⟨s.step.trans s1, s.env.step s1, Same.refl _⟩, i0⟩ (fun i σ H hi ⟨F', env', s', _⟩ => .of (s'.good.sub _ _ (s'.fl _ _ h1))) (fun i v σ H H' hi ⟨F', env', s', hI⟩ hy => ?_) fun σ H ⟨F', env', s', hI⟩ => ?_
  · obtain ⟨T, z1, z2, rfl, hT, rfl, hz1, hz2⟩ := hy
    cases hz1
    obtain ⟨d, hd, iv⟩ := h2.getV hz2
    have s0 : Step X.K m F' H F' (upd H T (.tup [.int (i : Nat), z2])) := Step.mut (.refl s'.good) (s'.good.noF hT) (s'.good.notm hT) hT
    have st := s'.after s0
    refine ⟨T, _, rfl, .of upd_same, rfl, _, _, rfl, _, _, rfl, rfl, ?_⟩
    refine (turn i d env' hd hI).run _ F0 H0 F1 F' _ _ W ⟨st.step, (st.env.frz (.int _)).frz (iv.mono s'.fl), s'.fl⟩ ?_
    exact ⟨fun σ env F2 H2 s2 w => ⟨F2, env, s2, w⟩, fun v d σ env F2 H2 s2 => o.rt v d σ env F2 H2 (s2.floor (s.fl.trans s1.fs)), fun σ env F2 H2 s2 w => o.nx σ env F2 H2 (s2.floor (s.fl.trans s1.fs)) w, fun σ env F2 H2 s2 w => ⟨F2, env, s2, w⟩, o.tk, fun σ env F2 H2 C d fs s2 => o.ex σ env F2 H2 C d fs (s2.floor (s.fl.trans s1.fs)), fun v d σ env F2 H2 s2 => o.ro v d σ env F2 H2 (s2.floor (s.fl.trans s1.fs))⟩
  · exact o.nx σ env' F' H (s'.floor (s.fl.trans s1.fs)) (fin env' (by rw [← h2.length]; exact hI))
end
end DL
set_option Elab.async false
set_option linter.all false
set_option maxRecDepth 100000
set_option autoImplicit false
set_option maxHeartbeats 1000000
/-! DL, part 33: part 32's rules by the names of a def. -/
namespace DL
open PySem L2
section
variable {X : Cx} {P : Program} {w : World} {K : PySem.W.Frag} {mg : Str → Option Value} {base : Heap} {N Vn L G B : List Str} {S : Scope} {k k2 n : Nat} {x y : Str} {i j j2 : Nat}
variable {m : Option Mem} {env : Ev} {a b c e iter elt o tg : Expr} {es : List Expr} {pos p2 p3 p4 pr : Pos} {R : DEnds} {rest body els : List Stmt}
theorem dl_setKeyR (dx : DX X P w K mg base N Vn L G S k) {p : Addr} {ks : List Key} {xs : List D} (h1 : At N i x) (h2 : At Vn j x) (he : env[i]? = some (some (.prv (.owd p ks xs))))
    (hs : swapsWith e (some (.Subscript (.Name x p2) b p3)) pos.line X.env = pure false)
    (h : WR X m env e fun y => WE X m env b fun z => ∃ k, keyD z = some k ∧ dget ks xs k = none ∧ xs.length < 1000000 ∧ R.nx (env.set i (some (.prv (.owd p (ks ++ [k]) (xs ++ [y])))))) : WS X m env (.Assign [.Subscript (.Name x p2) b p3] e pos) R :=
  let ⟨v, d1, d2⟩ := dx.v h2; ws_setKeyR i (by have := dx.room.un; omega) (dx.n h1) v d1 d2 he hs h
theorem dl_sortedD (dx : DX X P w K mg base N Vn L G S k) (bn : NoMg mg B) {Q : List D → Prop} (h3 : At G j "sorted") (h4 : At B j2 "sorted") (hs : starEach [a] X.env = [(false, eval a X.env)]) (w : WE X m env a fun x => ∃ (ks : List Int) (xs : List D), x = .dic (ks.map Sum.inl) xs ∧ ks.length < 64 ∧ ∀ ms : List Int, ms.Perm ks → ms.Pairwise (· ≤ ·) → Q (ms.map D.int)) : WL X m env (.Call (.Name "sorted" p2) [a] [] pos) Q :=
  dl_lcb1 (call_sortedDI dx.calm) boot_sorted dx bn h3 h4 hs (w.mono fun _ h => cl_sortedD h)
theorem dl_for2 {x1 x2 : Str} {pt q1 q2 : Pos} {k0 : Nat} {j3 : Nat} (t u : Nat) (dx : DX X P w K mg base N Vn L G S k) (h1 : At N t x1) (h2 : At L j x1) (h3 : At N u x2) (h4 : At L j3 x2) (hs : ∀ y, foldedSetIterable iter X.env y = pure y)
    (h : WE X m env iter fun d => asLst d fun ds => ∃ I : Nat → Ev → Prop, I 0 env ∧
      (∀ (i : Nat) (d : D) (env' : Ev), ds[i]? = some d → I i env' → ∃ d1 d2, d = .tup [d1, d2] ∧ WSs X m ((env'.set t (some (.frz d1))).set u (some (.frz d2))) body { nx := I (i + 1), ct := I (i + 1), bk := R.nx, rt := R.rt, ex := R.ex, ro := R.ro }) ∧ ∀ env', I ds.length env' → R.nx env') :
    WS X m env (.For (.Tuple [.Name x1 q1, .Name x2 q2] k0 pt) iter body [] pos) R :=
  let ⟨l1, l2⟩ := dx.l h2; let ⟨l3, l4⟩ := dx.l h4
  ws_for2 t u dx.pass dx.calm (pg_name dx.ndX (dx.n h1) l1 l2) (pg_name dx.ndX (dx.n h3) l3 l4) hs h
theorem boot_enum : bootBuiltins "enumerate" = some (.type "enumerate") := by decide +kernel
theorem dl_forE {x1 x2 : Str} {pt q1 q2 : Pos} {k0 : Nat} {j3 j4 j5 : Nat} (t u : Nat) (dx : DX X P w K mg base N Vn L G S k) (bn : NoMg mg B) (h1 : At N t x1) (h2 : At L j x1) (h3 : At N u x2) (h4 : At L j3 x2) (h5 : At G j4 "enumerate") (h6 : At B j5 "enumerate") (hst : starEach [a] X.env = [(false, eval a X.env)]) (hs : ∀ y, foldedSetIterable (.Call (.Name "enumerate" p3) [a] [] pr) X.env y = pure y)
    (h : WE X m env a fun d => asLst d fun ds => ∃ I : Nat → Ev → Prop, I 0 env ∧
      (∀ (i : Nat) (d : D) (env' : Ev), ds[i]? = some d → I i env' → WSs X m ((env'.set t (some (.frz (.int i)))).set u (some (.frz d))) body { nx := I (i + 1), ct := I (i + 1), bk := R.nx, rt := R.rt, ex := R.ex, ro := R.ro }) ∧ ∀ env', I ds.length env' → R.nx env') :
    WS X m env (.For (.Tuple [.Name x1 q1, .Name x2 q2] k0 pt) (.Call (.Name "enumerate" p3) [a] [] pr) body [] pos) R :=
  let ⟨l1, l2⟩ := dx.l h2; let ⟨l3, l4⟩ := dx.l h4
  ws_forE t u dx.pass dx.calm (pg_name dx.ndX (dx.n h1) l1 l2) (pg_name dx.ndX (dx.n h3) l3 l4) (dx.g h5).1 (dx.b bn h6) hst hs h
theorem dl_while (dx : DX X P w K mg base N Vn L G S k) (I : Nat → Ev → Prop) (n0 : Nat) (i0 : I n0 env)
    (turn : ∀ (n : Nat) (env' : Ev), I n env' → WT X m env' c fun t => if t = true then WSs X m env' body { nx := fun ev => ∃ n', n' < n ∧ I n' ev, ct := fun ev => ∃ n', n' < n ∧ I n' ev, bk := R.nx, rt := R.rt, ex := R.ex, ro := R.ro } else R.nx env') :
    WS X m env (.While c body [] pos) R := ws_while dx.pass I n0 i0 turn
end
end DL
set_option Elab.async false
set_option linter.all false
set_option maxRecDepth 100000
set_option autoImplicit false
set_option maxHeartbeats 1000000
/-! DL, part 34: in and not in, as tests. -/
namespace DL
open PySem L2
section
variable {X : Cx} {m : Option Mem} {env : Ev} {a b : Expr} {pos : Pos}
theorem wt_notInDic {P : Bool → Prop} (hu : X.A.units + 1 < cLine) (hm : behindInMarks .NotIn b = false) (w : WE X m env a fun y => WE X m env b fun x => ∃ ks xs k, x = .dic ks xs ∧ keyD y = some k ∧ P (dget ks xs k).isNone) : WT X m env (.Compare a [.NotIn] [b] pos) P := by
  refine ⟨fun σ H0 F H kk g ev t => ttc (pt_cmp (pc_dnotin hu pe_can pe_can) hm) ?_⟩
  refine w.run σ H0 F H _ g ev fun v y F1 H1 s1 hv q => ?_
  refine q.run σ H0 F1 H1 _ s1.good (ev.step s1) fun u x F2 H2 s2 hx q2 => ?_
  obtain ⟨ks, xs, k, rfl, hk, hP⟩ := q2
  obtain rfl := hv.key hk
  cases hx with
  | dic h1 h2 h3 =>
    subst h2
    refine ⟨_, _, rfl, DGet.k (s2.good.sub _ _ h1), _, rfl, ?_⟩
    rcases dget_val (key := k) h3 with ⟨e1, e2⟩ | ⟨v', d', e1, e2, _⟩
    · rw [e1]; rw [e2] at hP; exact ((t.after s1).after s2).at s2.good hP
    · rw [e1]; rw [e2] at hP; exact ((t.after s1).after s2).at s2.good hP
theorem wt_inDic {P : Bool → Prop} (hu : X.A.units + 1 < cLine) (hm : behindInMarks .In b = false) (w : WE X m env a fun y => WE X m env b fun x => ∃ ks xs k, x = .dic ks xs ∧ keyD y = some k ∧ P (dget ks xs k).isSome) : WT X m env (.Compare a [.In] [b] pos) P := by
  refine ⟨fun σ H0 F H kk g ev t => ttc (pt_cmp (pc_din hu pe_can pe_can) hm) ?_⟩
  refine w.run σ H0 F H _ g ev fun v y F1 H1 s1 hv q => ?_
  refine q.run σ H0 F1 H1 _ s1.good (ev.step s1) fun u x F2 H2 s2 hx q2 => ?_
  obtain ⟨ks, xs, k, rfl, hk, hP⟩ := q2
  obtain rfl := hv.key hk
  cases hx with
  | dic h1 h2 h3 =>
    subst h2
    refine ⟨_, _, rfl, DGet.k (s2.good.sub _ _ h1), _, rfl, ?_⟩
    rcases dget_val (key := k) h3 with ⟨e1, e2⟩ | ⟨v', d', e1, e2, _⟩
    · rw [e1]; rw [e2] at hP; exact ((t.after s1).after s2).at s2.good hP
    · rw [e1]; rw [e2] at hP; exact ((t.after s1).after s2).at s2.good hP
theorem wt_notInL {P : Bool → Prop} (hu : X.A.units + 65 < cLine) (hm : behindInMarks .NotIn b = false) (w : WE X m env a fun x => WE X m env b fun y => asLst y fun ds => x.ok 64 = true ∧ (D.lst ds).ok 64 = true ∧ P (!ds.any fun z => z.eq x)) : WT X m env (.Compare a [.NotIn] [b] pos) P := by
  refine wt_cmp (op_notInD hu) hm (w.mono fun x h => h.mono fun y q => ⟨fun F H v w k g hv hw t => ?_⟩)
  cases y <;> first | exact q.elim | skip
  obtain ⟨o1, o2, q⟩ := q
  rename_i ds
  refine ⟨_, D.pyAll ds, hv.dp g.sub 64 x v o1, ?_, D.shaped o1, ?_, ?_⟩
  · have := hw.dp g.sub 64 _ w o2
    rwa [D.py] at this
  · have := D.shaped o2
    rwa [D.py] at this
  · rw [any_py]
    exact t.at g (.bl _) q
end
end DL
set_option Elab.async false
set_option linter.all false
set_option maxRecDepth 100000
set_option autoImplicit false
set_option pp.deepTerms false
set_option pp.deepTerms.threshold 7
set_option pp.maxSteps 1500
set_option maxHeartbeats 1600000
namespace My
open PySem L2 DL
def top (i : Nat) : Stmt := PySem.Challenge.pw_claimclasses_k15_classes_that_are_reache.main.body.getD i (.Pass ⟨0, 0, 0, 0⟩)
abbrev s_w_wall : Stmt := top 0
abbrev N_w_wall : List Str := ["k"]
abbrev P_w_wall : List Str := ["k"]
abbrev V_w_wall : List Str := ["k"]
abbrev L_w_wall : List Str := ["k"]
abbrev G_w_wall : List Str := []
theorem sc_w_wall : FnScope N_w_wall P_w_wall (defScope s_w_wall) :=
  ⟨rfl, rfl, rfl, by decide +kernel, rfl, by decide +kernel, by decide +kernel⟩
theorem v_w_wall : ∀ x ∈ V_w_wall, VisOk (defScope s_w_wall) x = true := by decide +kernel
theorem l_w_wall : ∀ x ∈ L_w_wall, LocOk (defScope s_w_wall) x = true := by decide +kernel
theorem g_w_wall : ∀ x ∈ G_w_wall, GlOk (defScope s_w_wall) x = true := by decide +kernel
abbrev s_NoClass_init : Stmt := inClass (top 5) 0
abbrev N_NoClass_init : List Str := ["self", "at"]
abbrev P_NoClass_init : List Str := ["self", "at"]
abbrev V_NoClass_init : List Str := ["self", "at"]
abbrev L_NoClass_init : List Str := ["self", "at"]
abbrev G_NoClass_init : List Str := ["ClaimError"]
theorem sc_NoClass_init : FnScope N_NoClass_init P_NoClass_init (defScope s_NoClass_init) :=
  ⟨rfl, rfl, rfl, by decide +kernel, rfl, by decide +kernel, by decide +kernel⟩
theorem v_NoClass_init : ∀ x ∈ V_NoClass_init, VisOk (defScope s_NoClass_init) x = true := by decide +kernel
theorem l_NoClass_init : ∀ x ∈ L_NoClass_init, LocOk (defScope s_NoClass_init) x = true := by decide +kernel
theorem g_NoClass_init : ∀ x ∈ G_NoClass_init, GlOk (defScope s_NoClass_init) x = true := by decide +kernel
abbrev s_BadClaims_init : Stmt := inClass (top 6) 0
abbrev N_BadClaims_init : List Str := ["self", "claims"]
abbrev P_BadClaims_init : List Str := ["self", "claims"]
abbrev V_BadClaims_init : List Str := ["self", "claims"]
abbrev L_BadClaims_init : List Str := ["self", "claims"]
abbrev G_BadClaims_init : List Str := ["ClaimError"]
theorem sc_BadClaims_init : FnScope N_BadClaims_init P_BadClaims_init (defScope s_BadClaims_init) :=
  ⟨rfl, rfl, rfl, by decide +kernel, rfl, by decide +kernel, by decide +kernel⟩
theorem v_BadClaims_init : ∀ x ∈ V_BadClaims_init, VisOk (defScope s_BadClaims_init) x = true := by decide +kernel
theorem l_BadClaims_init : ∀ x ∈ L_BadClaims_init, LocOk (defScope s_BadClaims_init) x = true := by decide +kernel
theorem g_BadClaims_init : ∀ x ∈ G_BadClaims_init, GlOk (defScope s_BadClaims_init) x = true := by decide +kernel
abbrev s_p_is_integer : Stmt := top 10
abbrev N_p_is_integer : List Str := ["value"]
abbrev P_p_is_integer : List Str := ["value"]
abbrev V_p_is_integer : List Str := ["value"]
abbrev L_p_is_integer : List Str := ["value"]
abbrev G_p_is_integer : List Str := ["isinstance", "int", "bool"]
theorem sc_p_is_integer : FnScope N_p_is_integer P_p_is_integer (defScope s_p_is_integer) :=
  ⟨rfl, rfl, rfl, by decide +kernel, rfl, by decide +kernel, by decide +kernel⟩
theorem v_p_is_integer : ∀ x ∈ V_p_is_integer, VisOk (defScope s_p_is_integer) x = true := by decide +kernel
theorem l_p_is_integer : ∀ x ∈ L_p_is_integer, LocOk (defScope s_p_is_integer) x = true := by decide +kernel
theorem g_p_is_integer : ∀ x ∈ G_p_is_integer, GlOk (defScope s_p_is_integer) x = true := by decide +kernel
abbrev s_p_is_between : Stmt := top 11
abbrev N_p_is_between : List Str := ["value", "low", "high"]
abbrev P_p_is_between : List Str := ["value", "low", "high"]
abbrev V_p_is_between : List Str := ["value", "low", "high"]
abbrev L_p_is_between : List Str := ["value", "low", "high"]
abbrev G_p_is_between : List Str := ["is_integer"]
theorem sc_p_is_between : FnScope N_p_is_between P_p_is_between (defScope s_p_is_between) :=
  ⟨rfl, rfl, rfl, by decide +kernel, rfl, by decide +kernel, by decide +kernel⟩
theorem v_p_is_between : ∀ x ∈ V_p_is_between, VisOk (defScope s_p_is_between) x = true := by decide +kernel
theorem l_p_is_between : ∀ x ∈ L_p_is_between, LocOk (defScope s_p_is_between) x = true := by decide +kernel
theorem g_p_is_between : ∀ x ∈ G_p_is_between, GlOk (defScope s_p_is_between) x = true := by decide +kernel
abbrev s_p_is_list_of : Stmt := top 12
abbrev N_p_is_list_of : List Str := ["value", "fewest", "most", "high", "item"]
abbrev P_p_is_list_of : List Str := ["value", "fewest", "most", "high"]
abbrev V_p_is_list_of : List Str := ["value", "fewest", "most", "high"]
abbrev L_p_is_list_of : List Str := ["value", "fewest", "most", "high"]
abbrev G_p_is_list_of : List Str := ["isinstance", "list", "len", "all"]
theorem sc_p_is_list_of : FnScope N_p_is_list_of P_p_is_list_of (defScope s_p_is_list_of) :=
  ⟨rfl, rfl, rfl, by decide +kernel, rfl, by decide +kernel, by decide +kernel⟩
theorem v_p_is_list_of : ∀ x ∈ V_p_is_list_of, VisOk (defScope s_p_is_list_of) x = true := by decide +kernel
theorem l_p_is_list_of : ∀ x ∈ L_p_is_list_of, LocOk (defScope s_p_is_list_of) x = true := by decide +kernel
theorem g_p_is_list_of : ∀ x ∈ G_p_is_list_of, GlOk (defScope s_p_is_list_of) x = true := by decide +kernel
/-- p_is_list_of, comprehension 0: item -/
abbrev Vc_p_is_list_of_0 : List Str := ["item", "high"]
abbrev Gc_p_is_list_of_0 : List Str := ["is_between"]
abbrev own_p_is_list_of_0 : List (Str × Nat) := [("item", 4)]
abbrev s_p_check_premiums : Stmt := top 13
abbrev N_p_check_premiums : List Str := ["premiums"]
abbrev P_p_check_premiums : List Str := ["premiums"]
abbrev V_p_check_premiums : List Str := ["premiums"]
abbrev L_p_check_premiums : List Str := ["premiums"]
abbrev G_p_check_premiums : List Str := ["is_list_of", "MOST_CLASSES", "MOST_PREMIUM", "BadPremiums"]
theorem sc_p_check_premiums : FnScope N_p_check_premiums P_p_check_premiums (defScope s_p_check_premiums) :=
  ⟨rfl, rfl, rfl, by decide +kernel, rfl, by decide +kernel, by decide +kernel⟩
theorem v_p_check_premiums : ∀ x ∈ V_p_check_premiums, VisOk (defScope s_p_check_premiums) x = true := by decide +kernel
theorem l_p_check_premiums : ∀ x ∈ L_p_check_premiums, LocOk (defScope s_p_check_premiums) x = true := by decide +kernel
theorem g_p_check_premiums : ∀ x ∈ G_p_check_premiums, GlOk (defScope s_p_check_premiums) x = true := by decide +kernel
abbrev s_p_check_class : Stmt := top 14
abbrev N_p_check_class : List Str := ["scale", "at"]
abbrev P_p_check_class : List Str := ["scale", "at"]
abbrev V_p_check_class : List Str := ["scale", "at"]
abbrev L_p_check_class : List Str := ["scale", "at"]
abbrev G_p_check_class : List Str := ["NoClass"]
theorem sc_p_check_class : FnScope N_p_check_class P_p_check_class (defScope s_p_check_class) :=
  ⟨rfl, rfl, rfl, by decide +kernel, rfl, by decide +kernel, by decide +kernel⟩
theorem v_p_check_class : ∀ x ∈ V_p_check_class, VisOk (defScope s_p_check_class) x = true := by decide +kernel
theorem l_p_check_class : ∀ x ∈ L_p_check_class, LocOk (defScope s_p_check_class) x = true := by decide +kernel
theorem g_p_check_class : ∀ x ∈ G_p_check_class, GlOk (defScope s_p_check_class) x = true := by decide +kernel
abbrev s_p_check_claims : Stmt := top 15
abbrev N_p_check_claims : List Str := ["claims"]
abbrev P_p_check_claims : List Str := ["claims"]
abbrev V_p_check_claims : List Str := ["claims"]
abbrev L_p_check_claims : List Str := ["claims"]
abbrev G_p_check_claims : List Str := ["is_integer", "BadClaims"]
theorem sc_p_check_claims : FnScope N_p_check_claims P_p_check_claims (defScope s_p_check_claims) :=
  ⟨rfl, rfl, rfl, by decide +kernel, rfl, by decide +kernel, by decide +kernel⟩
theorem v_p_check_claims : ∀ x ∈ V_p_check_claims, VisOk (defScope s_p_check_claims) x = true := by decide +kernel
theorem l_p_check_claims : ∀ x ∈ L_p_check_claims, LocOk (defScope s_p_check_claims) x = true := by decide +kernel
theorem g_p_check_claims : ∀ x ∈ G_p_check_claims, GlOk (defScope s_p_check_claims) x = true := by decide +kernel
abbrev s_p_check_row : Stmt := top 16
abbrev N_p_check_row : List Str := ["row", "claims"]
abbrev P_p_check_row : List Str := ["row"]
abbrev V_p_check_row : List Str := ["row", "claims"]
abbrev L_p_check_row : List Str := ["row", "claims"]
abbrev G_p_check_row : List Str := ["check_claims"]
theorem sc_p_check_row : FnScope N_p_check_row P_p_check_row (defScope s_p_check_row) :=
  ⟨rfl, rfl, rfl, by decide +kernel, rfl, by decide +kernel, by decide +kernel⟩
theorem v_p_check_row : ∀ x ∈ V_p_check_row, VisOk (defScope s_p_check_row) x = true := by decide +kernel
theorem l_p_check_row : ∀ x ∈ L_p_check_row, LocOk (defScope s_p_check_row) x = true := by decide +kernel
theorem g_p_check_row : ∀ x ∈ G_p_check_row, GlOk (defScope s_p_check_row) x = true := by decide +kernel
abbrev s_p_is_table : Stmt := top 19
abbrev N_p_is_table : List Str := ["table", "many", "leads"]
abbrev P_p_is_table : List Str := ["table", "many"]
abbrev V_p_is_table : List Str := ["table", "many"]
abbrev L_p_is_table : List Str := ["table", "many"]
abbrev G_p_is_table : List Str := ["isinstance", "list", "len", "all"]
theorem sc_p_is_table : FnScope N_p_is_table P_p_is_table (defScope s_p_is_table) :=
  ⟨rfl, rfl, rfl, by decide +kernel, rfl, by decide +kernel, by decide +kernel⟩
theorem v_p_is_table : ∀ x ∈ V_p_is_table, VisOk (defScope s_p_is_table) x = true := by decide +kernel
theorem l_p_is_table : ∀ x ∈ L_p_is_table, LocOk (defScope s_p_is_table) x = true := by decide +kernel
theorem g_p_is_table : ∀ x ∈ G_p_is_table, GlOk (defScope s_p_is_table) x = true := by decide +kernel
/-- p_is_table, comprehension 0: leads -/
abbrev Vc_p_is_table_0 : List Str := ["leads", "many"]
abbrev Gc_p_is_table_0 : List Str := ["is_list_of", "MOST_COLUMNS"]
abbrev own_p_is_table_0 : List (Str × Nat) := [("leads", 2)]
/-- p_is_table, comprehension 1: leads -/
abbrev Vc_p_is_table_1 : List Str := ["leads", "table"]
abbrev Gc_p_is_table_1 : List Str := ["len"]
abbrev own_p_is_table_1 : List (Str × Nat) := [("leads", 2)]
abbrev s_p_led_to : Stmt := top 20
abbrev N_p_led_to : List Str := ["leads", "claims"]
abbrev P_p_led_to : List Str := ["leads", "claims"]
abbrev V_p_led_to : List Str := ["leads", "claims"]
abbrev L_p_led_to : List Str := ["leads", "claims"]
abbrev G_p_led_to : List Str := ["min", "len"]
theorem sc_p_led_to : FnScope N_p_led_to P_p_led_to (defScope s_p_led_to) :=
  ⟨rfl, rfl, rfl, by decide +kernel, rfl, by decide +kernel, by decide +kernel⟩
theorem v_p_led_to : ∀ x ∈ V_p_led_to, VisOk (defScope s_p_led_to) x = true := by decide +kernel
theorem l_p_led_to : ∀ x ∈ L_p_led_to, LocOk (defScope s_p_led_to) x = true := by decide +kernel
theorem g_p_led_to : ∀ x ∈ G_p_led_to, GlOk (defScope s_p_led_to) x = true := by decide +kernel
abbrev s_p_shortest_rows : Stmt := top 21
abbrev N_p_shortest_rows : List Str := ["moves", "start", "rows", "layer", "further", "at", "column", "to"]
abbrev P_p_shortest_rows : List Str := ["moves", "start"]
abbrev V_p_shortest_rows : List Str := ["moves", "start", "rows", "layer", "further", "at", "column", "to"]
abbrev L_p_shortest_rows : List Str := ["moves", "start", "rows", "layer", "further", "at", "column", "to"]
abbrev G_p_shortest_rows : List Str := ["enumerate"]
theorem sc_p_shortest_rows : FnScope N_p_shortest_rows P_p_shortest_rows (defScope s_p_shortest_rows) :=
  ⟨rfl, rfl, rfl, by decide +kernel, rfl, by decide +kernel, by decide +kernel⟩
theorem v_p_shortest_rows : ∀ x ∈ V_p_shortest_rows, VisOk (defScope s_p_shortest_rows) x = true := by decide +kernel
theorem l_p_shortest_rows : ∀ x ∈ L_p_shortest_rows, LocOk (defScope s_p_shortest_rows) x = true := by decide +kernel
theorem g_p_shortest_rows : ∀ x ∈ G_p_shortest_rows, GlOk (defScope s_p_shortest_rows) x = true := by decide +kernel
abbrev s_Scale_init : Stmt := inClass (top 22) 0
abbrev N_Scale_init : List Str := ["self", "premiums", "table", "leads"]
abbrev P_Scale_init : List Str := ["self", "premiums", "table"]
abbrev V_Scale_init : List Str := ["self", "premiums", "table"]
abbrev L_Scale_init : List Str := ["self", "premiums", "table"]
abbrev G_Scale_init : List Str := ["check_premiums", "is_table", "len", "BadTable", "list"]
theorem sc_Scale_init : FnScope N_Scale_init P_Scale_init (defScope s_Scale_init) :=
  ⟨rfl, rfl, rfl, by decide +kernel, rfl, by decide +kernel, by decide +kernel⟩
theorem v_Scale_init : ∀ x ∈ V_Scale_init, VisOk (defScope s_Scale_init) x = true := by decide +kernel
theorem l_Scale_init : ∀ x ∈ L_Scale_init, LocOk (defScope s_Scale_init) x = true := by decide +kernel
theorem g_Scale_init : ∀ x ∈ G_Scale_init, GlOk (defScope s_Scale_init) x = true := by decide +kernel
/-- Scale_init, comprehension 0: leads -/
abbrev Vc_Scale_init_0 : List Str := ["leads"]
abbrev Gc_Scale_init_0 : List Str := ["list"]
abbrev own_Scale_init_0 : List (Str × Nat) := [("leads", 3)]
abbrev s_Scale_call : Stmt := inClass (top 22) 1
abbrev N_Scale_call : List Str := ["self", "at", "claims"]
abbrev P_Scale_call : List Str := ["self", "at", "claims"]
abbrev V_Scale_call : List Str := ["self", "at", "claims"]
abbrev L_Scale_call : List Str := ["self", "at", "claims"]
abbrev G_Scale_call : List Str := ["check_class", "check_claims", "led_to"]
theorem sc_Scale_call : FnScope N_Scale_call P_Scale_call (defScope s_Scale_call) :=
  ⟨rfl, rfl, rfl, by decide +kernel, rfl, by decide +kernel, by decide +kernel⟩
theorem v_Scale_call : ∀ x ∈ V_Scale_call, VisOk (defScope s_Scale_call) x = true := by decide +kernel
theorem l_Scale_call : ∀ x ∈ L_Scale_call, LocOk (defScope s_Scale_call) x = true := by decide +kernel
theorem g_Scale_call : ∀ x ∈ G_Scale_call, GlOk (defScope s_Scale_call) x = true := by decide +kernel
abbrev s_Scale_len : Stmt := inClass (top 22) 2
abbrev N_Scale_len : List Str := ["self"]
abbrev P_Scale_len : List Str := ["self"]
abbrev V_Scale_len : List Str := ["self"]
abbrev L_Scale_len : List Str := ["self"]
abbrev G_Scale_len : List Str := ["len"]
theorem sc_Scale_len : FnScope N_Scale_len P_Scale_len (defScope s_Scale_len) :=
  ⟨rfl, rfl, rfl, by decide +kernel, rfl, by decide +kernel, by decide +kernel⟩
theorem v_Scale_len : ∀ x ∈ V_Scale_len, VisOk (defScope s_Scale_len) x = true := by decide +kernel
theorem l_Scale_len : ∀ x ∈ L_Scale_len, LocOk (defScope s_Scale_len) x = true := by decide +kernel
theorem g_Scale_len : ∀ x ∈ G_Scale_len, GlOk (defScope s_Scale_len) x = true := by decide +kernel
abbrev s_Scale_contains : Stmt := inClass (top 22) 3
abbrev N_Scale_contains : List Str := ["self", "at"]
abbrev P_Scale_contains : List Str := ["self", "at"]
abbrev V_Scale_contains : List Str := ["self", "at"]
abbrev L_Scale_contains : List Str := ["self", "at"]
abbrev G_Scale_contains : List Str := ["is_between", "len"]
theorem sc_Scale_contains : FnScope N_Scale_contains P_Scale_contains (defScope s_Scale_contains) :=
  ⟨rfl, rfl, rfl, by decide +kernel, rfl, by decide +kernel, by decide +kernel⟩
theorem v_Scale_contains : ∀ x ∈ V_Scale_contains, VisOk (defScope s_Scale_contains) x = true := by decide +kernel
theorem l_Scale_contains : ∀ x ∈ L_Scale_contains, LocOk (defScope s_Scale_contains) x = true := by decide +kernel
theorem g_Scale_contains : ∀ x ∈ G_Scale_contains, GlOk (defScope s_Scale_contains) x = true := by decide +kernel
abbrev s_Scale_add : Stmt := inClass (top 22) 4
abbrev N_Scale_add : List Str := ["self", "amount", "price"]
abbrev P_Scale_add : List Str := ["self", "amount"]
abbrev V_Scale_add : List Str := ["self", "amount"]
abbrev L_Scale_add : List Str := ["self", "amount"]
abbrev G_Scale_add : List Str := ["Scale"]
theorem sc_Scale_add : FnScope N_Scale_add P_Scale_add (defScope s_Scale_add) :=
  ⟨rfl, rfl, rfl, by decide +kernel, rfl, by decide +kernel, by decide +kernel⟩
theorem v_Scale_add : ∀ x ∈ V_Scale_add, VisOk (defScope s_Scale_add) x = true := by decide +kernel
theorem l_Scale_add : ∀ x ∈ L_Scale_add, LocOk (defScope s_Scale_add) x = true := by decide +kernel
theorem g_Scale_add : ∀ x ∈ G_Scale_add, GlOk (defScope s_Scale_add) x = true := by decide +kernel
/-- Scale_add, comprehension 0: price -/
abbrev Vc_Scale_add_0 : List Str := ["price", "amount"]
abbrev Gc_Scale_add_0 : List Str := []
abbrev own_Scale_add_0 : List (Str × Nat) := [("price", 2)]
abbrev s_Scale_mul : Stmt := inClass (top 22) 5
abbrev N_Scale_mul : List Str := ["self", "factor", "price"]
abbrev P_Scale_mul : List Str := ["self", "factor"]
abbrev V_Scale_mul : List Str := ["self", "factor"]
abbrev L_Scale_mul : List Str := ["self", "factor"]
abbrev G_Scale_mul : List Str := ["Scale"]
theorem sc_Scale_mul : FnScope N_Scale_mul P_Scale_mul (defScope s_Scale_mul) :=
  ⟨rfl, rfl, rfl, by decide +kernel, rfl, by decide +kernel, by decide +kernel⟩
theorem v_Scale_mul : ∀ x ∈ V_Scale_mul, VisOk (defScope s_Scale_mul) x = true := by decide +kernel
theorem l_Scale_mul : ∀ x ∈ L_Scale_mul, LocOk (defScope s_Scale_mul) x = true := by decide +kernel
theorem g_Scale_mul : ∀ x ∈ G_Scale_mul, GlOk (defScope s_Scale_mul) x = true := by decide +kernel
/-- Scale_mul, comprehension 0: price -/
abbrev Vc_Scale_mul_0 : List Str := ["price", "factor"]
abbrev Gc_Scale_mul_0 : List Str := []
abbrev own_Scale_mul_0 : List (Str × Nat) := [("price", 2)]
abbrev s_Scale_columns : Stmt := inClass (top 22) 6
abbrev N_Scale_columns : List Str := ["self"]
abbrev P_Scale_columns : List Str := ["self"]
abbrev V_Scale_columns : List Str := ["self"]
abbrev L_Scale_columns : List Str := ["self"]
abbrev G_Scale_columns : List Str := ["len"]
theorem sc_Scale_columns : FnScope N_Scale_columns P_Scale_columns (defScope s_Scale_columns) :=
  ⟨rfl, rfl, rfl, by decide +kernel, rfl, by decide +kernel, by decide +kernel⟩
theorem v_Scale_columns : ∀ x ∈ V_Scale_columns, VisOk (defScope s_Scale_columns) x = true := by decide +kernel
theorem l_Scale_columns : ∀ x ∈ L_Scale_columns, LocOk (defScope s_Scale_columns) x = true := by decide +kernel
theorem g_Scale_columns : ∀ x ∈ G_Scale_columns, GlOk (defScope s_Scale_columns) x = true := by decide +kernel
abbrev s_Scale_premium : Stmt := inClass (top 22) 7
abbrev N_Scale_premium : List Str := ["self", "at"]
abbrev P_Scale_premium : List Str := ["self", "at"]
abbrev V_Scale_premium : List Str := ["self", "at"]
abbrev L_Scale_premium : List Str := ["self", "at"]
abbrev G_Scale_premium : List Str := ["_wall"]
theorem sc_Scale_premium : FnScope N_Scale_premium P_Scale_premium (defScope s_Scale_premium) :=
  ⟨rfl, rfl, rfl, by decide +kernel, rfl, by decide +kernel, by decide +kernel⟩
theorem v_Scale_premium : ∀ x ∈ V_Scale_premium, VisOk (defScope s_Scale_premium) x = true := by decide +kernel
theorem l_Scale_premium : ∀ x ∈ L_Scale_premium, LocOk (defScope s_Scale_premium) x = true := by decide +kernel
theorem g_Scale_premium : ∀ x ∈ G_Scale_premium, GlOk (defScope s_Scale_premium) x = true := by decide +kernel
abbrev s_Scale_premiums : Stmt := inClass (top 22) 8
abbrev N_Scale_premiums : List Str := ["self"]
abbrev P_Scale_premiums : List Str := ["self"]
abbrev V_Scale_premiums : List Str := ["self"]
abbrev L_Scale_premiums : List Str := ["self"]
abbrev G_Scale_premiums : List Str := ["list"]
theorem sc_Scale_premiums : FnScope N_Scale_premiums P_Scale_premiums (defScope s_Scale_premiums) :=
  ⟨rfl, rfl, rfl, by decide +kernel, rfl, by decide +kernel, by decide +kernel⟩
theorem v_Scale_premiums : ∀ x ∈ V_Scale_premiums, VisOk (defScope s_Scale_premiums) x = true := by decide +kernel
theorem l_Scale_premiums : ∀ x ∈ L_Scale_premiums, LocOk (defScope s_Scale_premiums) x = true := by decide +kernel
theorem g_Scale_premiums : ∀ x ∈ G_Scale_premiums, GlOk (defScope s_Scale_premiums) x = true := by decide +kernel
abbrev s_Scale_table : Stmt := inClass (top 22) 9
abbrev N_Scale_table : List Str := ["self", "leads"]
abbrev P_Scale_table : List Str := ["self"]
abbrev V_Scale_table : List Str := ["self"]
abbrev L_Scale_table : List Str := ["self"]
abbrev G_Scale_table : List Str := []
theorem sc_Scale_table : FnScope N_Scale_table P_Scale_table (defScope s_Scale_table) :=
  ⟨rfl, rfl, rfl, by decide +kernel, rfl, by decide +kernel, by decide +kernel⟩
theorem v_Scale_table : ∀ x ∈ V_Scale_table, VisOk (defScope s_Scale_table) x = true := by decide +kernel
theorem l_Scale_table : ∀ x ∈ L_Scale_table, LocOk (defScope s_Scale_table) x = true := by decide +kernel
theorem g_Scale_table : ∀ x ∈ G_Scale_table, GlOk (defScope s_Scale_table) x = true := by decide +kernel
/-- Scale_table, comprehension 0: leads -/
abbrev Vc_Scale_table_0 : List Str := ["leads"]
abbrev Gc_Scale_table_0 : List Str := ["list"]
abbrev own_Scale_table_0 : List (Str × Nat) := [("leads", 1)]
abbrev s_Scale_classes : Stmt := inClass (top 22) 10
abbrev N_Scale_classes : List Str := ["self", "start", "row", "at", "found", "claims"]
abbrev P_Scale_classes : List Str := ["self", "start", "row"]
abbrev V_Scale_classes : List Str := ["self", "start", "row", "at", "found", "claims"]
abbrev L_Scale_classes : List Str := ["self", "start", "row", "at", "found", "claims"]
abbrev G_Scale_classes : List Str := ["check_class", "check_row", "led_to"]
theorem sc_Scale_classes : FnScope N_Scale_classes P_Scale_classes (defScope s_Scale_classes) :=
  ⟨rfl, rfl, rfl, by decide +kernel, rfl, by decide +kernel, by decide +kernel⟩
theorem v_Scale_classes : ∀ x ∈ V_Scale_classes, VisOk (defScope s_Scale_classes) x = true := by decide +kernel
theorem l_Scale_classes : ∀ x ∈ L_Scale_classes, LocOk (defScope s_Scale_classes) x = true := by decide +kernel
theorem g_Scale_classes : ∀ x ∈ G_Scale_classes, GlOk (defScope s_Scale_classes) x = true := by decide +kernel
abbrev s_Scale_bills : Stmt := inClass (top 22) 11
abbrev N_Scale_bills : List Str := ["self", "start", "row"]
abbrev P_Scale_bills : List Str := ["self", "start", "row"]
abbrev V_Scale_bills : List Str := ["self", "start", "row"]
abbrev L_Scale_bills : List Str := ["self", "start", "row"]
abbrev G_Scale_bills : List Str := ["_wall"]
theorem sc_Scale_bills : FnScope N_Scale_bills P_Scale_bills (defScope s_Scale_bills) :=
  ⟨rfl, rfl, rfl, by decide +kernel, rfl, by decide +kernel, by decide +kernel⟩
theorem v_Scale_bills : ∀ x ∈ V_Scale_bills, VisOk (defScope s_Scale_bills) x = true := by decide +kernel
theorem l_Scale_bills : ∀ x ∈ L_Scale_bills, LocOk (defScope s_Scale_bills) x = true := by decide +kernel
theorem g_Scale_bills : ∀ x ∈ G_Scale_bills, GlOk (defScope s_Scale_bills) x = true := by decide +kernel
abbrev s_Scale_paid : Stmt := inClass (top 22) 12
abbrev N_Scale_paid : List Str := ["self", "start", "row"]
abbrev P_Scale_paid : List Str := ["self", "start", "row"]
abbrev V_Scale_paid : List Str := ["self", "start", "row"]
abbrev L_Scale_paid : List Str := ["self", "start", "row"]
abbrev G_Scale_paid : List Str := ["_wall"]
theorem sc_Scale_paid : FnScope N_Scale_paid P_Scale_paid (defScope s_Scale_paid) :=
  ⟨rfl, rfl, rfl, by decide +kernel, rfl, by decide +kernel, by decide +kernel⟩
theorem v_Scale_paid : ∀ x ∈ V_Scale_paid, VisOk (defScope s_Scale_paid) x = true := by decide +kernel
theorem l_Scale_paid : ∀ x ∈ L_Scale_paid, LocOk (defScope s_Scale_paid) x = true := by decide +kernel
theorem g_Scale_paid : ∀ x ∈ G_Scale_paid, GlOk (defScope s_Scale_paid) x = true := by decide +kernel
abbrev s_Scale_reached : Stmt := inClass (top 22) 13
abbrev N_Scale_reached : List Str := ["self", "start"]
abbrev P_Scale_reached : List Str := ["self", "start"]
abbrev V_Scale_reached : List Str := ["self", "start"]
abbrev L_Scale_reached : List Str := ["self", "start"]
abbrev G_Scale_reached : List Str := ["check_class", "sorted", "shortest_rows"]
theorem sc_Scale_reached : FnScope N_Scale_reached P_Scale_reached (defScope s_Scale_reached) :=
  ⟨rfl, rfl, rfl, by decide +kernel, rfl, by decide +kernel, by decide +kernel⟩
theorem v_Scale_reached : ∀ x ∈ V_Scale_reached, VisOk (defScope s_Scale_reached) x = true := by decide +kernel
theorem l_Scale_reached : ∀ x ∈ L_Scale_reached, LocOk (defScope s_Scale_reached) x = true := by decide +kernel
theorem g_Scale_reached : ∀ x ∈ G_Scale_reached, GlOk (defScope s_Scale_reached) x = true := by decide +kernel
abbrev s_Scale_way : Stmt := inClass (top 22) 14
abbrev N_Scale_way : List Str := ["self", "start", "goal"]
abbrev P_Scale_way : List Str := ["self", "start", "goal"]
abbrev V_Scale_way : List Str := ["self", "start", "goal"]
abbrev L_Scale_way : List Str := ["self", "start", "goal"]
abbrev G_Scale_way : List Str := ["check_class", "shortest_rows"]
theorem sc_Scale_way : FnScope N_Scale_way P_Scale_way (defScope s_Scale_way) :=
  ⟨rfl, rfl, rfl, by decide +kernel, rfl, by decide +kernel, by decide +kernel⟩
theorem v_Scale_way : ∀ x ∈ V_Scale_way, VisOk (defScope s_Scale_way) x = true := by decide +kernel
theorem l_Scale_way : ∀ x ∈ L_Scale_way, LocOk (defScope s_Scale_way) x = true := by decide +kernel
theorem g_Scale_way : ∀ x ∈ G_Scale_way, GlOk (defScope s_Scale_way) x = true := by decide +kernel
abbrev s_Scale_limited : Stmt := inClass (top 22) 15
abbrev N_Scale_limited : List Str := ["self", "columns"]
abbrev P_Scale_limited : List Str := ["self", "columns"]
abbrev V_Scale_limited : List Str := ["self", "columns"]
abbrev L_Scale_limited : List Str := ["self", "columns"]
abbrev G_Scale_limited : List Str := ["_wall"]
theorem sc_Scale_limited : FnScope N_Scale_limited P_Scale_limited (defScope s_Scale_limited) :=
  ⟨rfl, rfl, rfl, by decide +kernel, rfl, by decide +kernel, by decide +kernel⟩
theorem v_Scale_limited : ∀ x ∈ V_Scale_limited, VisOk (defScope s_Scale_limited) x = true := by decide +kernel
theorem l_Scale_limited : ∀ x ∈ L_Scale_limited, LocOk (defScope s_Scale_limited) x = true := by decide +kernel
theorem g_Scale_limited : ∀ x ∈ G_Scale_limited, GlOk (defScope s_Scale_limited) x = true := by decide +kernel
abbrev s_Scale_same : Stmt := inClass (top 22) 16
abbrev N_Scale_same : List Str := ["self", "other"]
abbrev P_Scale_same : List Str := ["self", "other"]
abbrev V_Scale_same : List Str := ["self", "other"]
abbrev L_Scale_same : List Str := ["self", "other"]
abbrev G_Scale_same : List Str := ["_wall"]
theorem sc_Scale_same : FnScope N_Scale_same P_Scale_same (defScope s_Scale_same) :=
  ⟨rfl, rfl, rfl, by decide +kernel, rfl, by decide +kernel, by decide +kernel⟩
theorem v_Scale_same : ∀ x ∈ V_Scale_same, VisOk (defScope s_Scale_same) x = true := by decide +kernel
theorem l_Scale_same : ∀ x ∈ L_Scale_same, LocOk (defScope s_Scale_same) x = true := by decide +kernel
theorem g_Scale_same : ∀ x ∈ G_Scale_same, GlOk (defScope s_Scale_same) x = true := by decide +kernel
abbrev s_l_bag : Stmt := top 24
abbrev N_l_bag : List Str := ["_law_script"]
abbrev P_l_bag : List Str := ["_law_script"]
abbrev V_l_bag : List Str := ["_law_script"]
abbrev L_l_bag : List Str := ["_law_script"]
abbrev G_l_bag : List Str := ["list"]
theorem sc_l_bag : FnScope N_l_bag P_l_bag (defScope s_l_bag) :=
  ⟨rfl, rfl, rfl, by decide +kernel, rfl, by decide +kernel, by decide +kernel⟩
theorem v_l_bag : ∀ x ∈ V_l_bag, VisOk (defScope s_l_bag) x = true := by decide +kernel
theorem l_l_bag : ∀ x ∈ L_l_bag, LocOk (defScope s_l_bag) x = true := by decide +kernel
theorem g_l_bag : ∀ x ∈ G_l_bag, GlOk (defScope s_l_bag) x = true := by decide +kernel
abbrev s_l_draw : Stmt := top 25
abbrev N_l_draw : List Str := ["_law_bag_here", "_law_size", "_law_cell", "_law_digit", "_law_mixed_here"]
abbrev P_l_draw : List Str := ["_law_bag_here", "_law_size"]
abbrev V_l_draw : List Str := ["_law_bag_here", "_law_size", "_law_cell", "_law_digit", "_law_mixed_here"]
abbrev L_l_draw : List Str := ["_law_bag_here", "_law_size", "_law_cell", "_law_digit", "_law_mixed_here"]
abbrev G_l_draw : List Str := ["len", "abs", "int"]
theorem sc_l_draw : FnScope N_l_draw P_l_draw (defScope s_l_draw) :=
  ⟨rfl, rfl, rfl, by decide +kernel, rfl, by decide +kernel, by decide +kernel⟩
theorem v_l_draw : ∀ x ∈ V_l_draw, VisOk (defScope s_l_draw) x = true := by decide +kernel
theorem l_l_draw : ∀ x ∈ L_l_draw, LocOk (defScope s_l_draw) x = true := by decide +kernel
theorem g_l_draw : ∀ x ∈ G_l_draw, GlOk (defScope s_l_draw) x = true := by decide +kernel
abbrev s_l_number : Stmt := top 26
abbrev N_l_number : List Str := ["_law_value"]
abbrev P_l_number : List Str := ["_law_value"]
abbrev V_l_number : List Str := ["_law_value"]
abbrev L_l_number : List Str := ["_law_value"]
abbrev G_l_number : List Str := ["isinstance", "int", "bool"]
theorem sc_l_number : FnScope N_l_number P_l_number (defScope s_l_number) :=
  ⟨rfl, rfl, rfl, by decide +kernel, rfl, by decide +kernel, by decide +kernel⟩
theorem v_l_number : ∀ x ∈ V_l_number, VisOk (defScope s_l_number) x = true := by decide +kernel
theorem l_l_number : ∀ x ∈ L_l_number, LocOk (defScope s_l_number) x = true := by decide +kernel
theorem g_l_number : ∀ x ∈ G_l_number, GlOk (defScope s_l_number) x = true := by decide +kernel
abbrev s_l_mixed : Stmt := top 27
abbrev N_l_mixed : List Str := ["_law_bag_here", "_law_items", "_law_left", "_law_found", "_law_k"]
abbrev P_l_mixed : List Str := ["_law_bag_here", "_law_items"]
abbrev V_l_mixed : List Str := ["_law_bag_here", "_law_items", "_law_left", "_law_found", "_law_k"]
abbrev L_l_mixed : List Str := ["_law_bag_here", "_law_items", "_law_left", "_law_found", "_law_k"]
abbrev G_l_mixed : List Str := ["list", "range", "len", "_law_draw"]
theorem sc_l_mixed : FnScope N_l_mixed P_l_mixed (defScope s_l_mixed) :=
  ⟨rfl, rfl, rfl, by decide +kernel, rfl, by decide +kernel, by decide +kernel⟩
theorem v_l_mixed : ∀ x ∈ V_l_mixed, VisOk (defScope s_l_mixed) x = true := by decide +kernel
theorem l_l_mixed : ∀ x ∈ L_l_mixed, LocOk (defScope s_l_mixed) x = true := by decide +kernel
theorem g_l_mixed : ∀ x ∈ G_l_mixed, GlOk (defScope s_l_mixed) x = true := by decide +kernel
abbrev s_l_scale : Stmt := top 28
abbrev N_l_scale : List Str := ["_law_bag_here", "_law_most", "_law_most_wide", "_law_count", "_law_wide", "_law_size", "_law_premiums", "_law_table", "_law_at", "_law_moves", "_law_k", "_law_premium"]
abbrev P_l_scale : List Str := ["_law_bag_here", "_law_most", "_law_most_wide"]
abbrev V_l_scale : List Str := ["_law_bag_here", "_law_most", "_law_most_wide", "_law_count", "_law_wide", "_law_size", "_law_premiums", "_law_table", "_law_at", "_law_moves"]
abbrev L_l_scale : List Str := ["_law_bag_here", "_law_most", "_law_most_wide", "_law_count", "_law_wide", "_law_size", "_law_premiums", "_law_table", "_law_at", "_law_moves"]
abbrev G_l_scale : List Str := ["_law_draw", "range", "max", "sorted"]
theorem sc_l_scale : FnScope N_l_scale P_l_scale (defScope s_l_scale) :=
  ⟨rfl, rfl, rfl, by decide +kernel, rfl, by decide +kernel, by decide +kernel⟩
theorem v_l_scale : ∀ x ∈ V_l_scale, VisOk (defScope s_l_scale) x = true := by decide +kernel
theorem l_l_scale : ∀ x ∈ L_l_scale, LocOk (defScope s_l_scale) x = true := by decide +kernel
theorem g_l_scale : ∀ x ∈ G_l_scale, GlOk (defScope s_l_scale) x = true := by decide +kernel
/-- l_scale, comprehension 0: _law_at -/
abbrev Vc_l_scale_0 : List Str := ["_law_at", "_law_bag_here", "_law_size"]
abbrev Gc_l_scale_0 : List Str := ["_law_draw"]
abbrev own_l_scale_0 : List (Str × Nat) := [("_law_at", 8)]
/-- l_scale, comprehension 1: _law_k -/
abbrev Vc_l_scale_1 : List Str := ["_law_k", "_law_bag_here", "_law_count"]
abbrev Gc_l_scale_1 : List Str := ["_law_draw"]
abbrev own_l_scale_1 : List (Str × Nat) := [("_law_k", 10)]
/-- l_scale, comprehension 2: _law_k -/
abbrev Vc_l_scale_2 : List Str := ["_law_k", "_law_at", "_law_count"]
abbrev Gc_l_scale_2 : List Str := ["min"]
abbrev own_l_scale_2 : List (Str × Nat) := [("_law_k", 10)]
/-- l_scale, comprehension 3: _law_premium -/
abbrev Vc_l_scale_3 : List Str := ["_law_premium"]
abbrev Gc_l_scale_3 : List Str := ["int"]
abbrev own_l_scale_3 : List (Str × Nat) := [("_law_premium", 11)]
abbrev s_l_made : Stmt := top 29
abbrev N_l_made : List Str := ["_law_plain", "_law_moves"]
abbrev P_l_made : List Str := ["_law_plain"]
abbrev V_l_made : List Str := ["_law_plain"]
abbrev L_l_made : List Str := ["_law_plain"]
abbrev G_l_made : List Str := ["Scale", "list"]
theorem sc_l_made : FnScope N_l_made P_l_made (defScope s_l_made) :=
  ⟨rfl, rfl, rfl, by decide +kernel, rfl, by decide +kernel, by decide +kernel⟩
theorem v_l_made : ∀ x ∈ V_l_made, VisOk (defScope s_l_made) x = true := by decide +kernel
theorem l_l_made : ∀ x ∈ L_l_made, LocOk (defScope s_l_made) x = true := by decide +kernel
theorem g_l_made : ∀ x ∈ G_l_made, GlOk (defScope s_l_made) x = true := by decide +kernel
/-- l_made, comprehension 0: _law_moves -/
abbrev Vc_l_made_0 : List Str := ["_law_moves"]
abbrev Gc_l_made_0 : List Str := ["list"]
abbrev own_l_made_0 : List (Str × Nat) := [("_law_moves", 1)]
abbrev s_l_led : Stmt := top 30
abbrev N_l_led : List Str := ["_law_plain", "_law_at", "_law_claims", "_law_moves"]
abbrev P_l_led : List Str := ["_law_plain", "_law_at", "_law_claims"]
abbrev V_l_led : List Str := ["_law_plain", "_law_at", "_law_claims", "_law_moves"]
abbrev L_l_led : List Str := ["_law_plain", "_law_at", "_law_claims", "_law_moves"]
abbrev G_l_led : List Str := ["min", "len"]
theorem sc_l_led : FnScope N_l_led P_l_led (defScope s_l_led) :=
  ⟨rfl, rfl, rfl, by decide +kernel, rfl, by decide +kernel, by decide +kernel⟩
theorem v_l_led : ∀ x ∈ V_l_led, VisOk (defScope s_l_led) x = true := by decide +kernel
theorem l_l_led : ∀ x ∈ L_l_led, LocOk (defScope s_l_led) x = true := by decide +kernel
theorem g_l_led : ∀ x ∈ G_l_led, GlOk (defScope s_l_led) x = true := by decide +kernel
abbrev s_l_classes : Stmt := top 31
abbrev N_l_classes : List Str := ["_law_plain", "_law_start", "_law_row", "_law_found", "_law_claims"]
abbrev P_l_classes : List Str := ["_law_plain", "_law_start", "_law_row"]
abbrev V_l_classes : List Str := ["_law_plain", "_law_start", "_law_row", "_law_found", "_law_claims"]
abbrev L_l_classes : List Str := ["_law_plain", "_law_start", "_law_row", "_law_found", "_law_claims"]
abbrev G_l_classes : List Str := ["_law_led"]
theorem sc_l_classes : FnScope N_l_classes P_l_classes (defScope s_l_classes) :=
  ⟨rfl, rfl, rfl, by decide +kernel, rfl, by decide +kernel, by decide +kernel⟩
theorem v_l_classes : ∀ x ∈ V_l_classes, VisOk (defScope s_l_classes) x = true := by decide +kernel
theorem l_l_classes : ∀ x ∈ L_l_classes, LocOk (defScope s_l_classes) x = true := by decide +kernel
theorem g_l_classes : ∀ x ∈ G_l_classes, GlOk (defScope s_l_classes) x = true := by decide +kernel
abbrev s_l_like : Stmt := top 32
abbrev N_l_like : List Str := ["_law_scale_here", "_law_plain"]
abbrev P_l_like : List Str := ["_law_scale_here", "_law_plain"]
abbrev V_l_like : List Str := ["_law_scale_here", "_law_plain"]
abbrev L_l_like : List Str := ["_law_scale_here", "_law_plain"]
abbrev G_l_like : List Str := []
theorem sc_l_like : FnScope N_l_like P_l_like (defScope s_l_like) :=
  ⟨rfl, rfl, rfl, by decide +kernel, rfl, by decide +kernel, by decide +kernel⟩
theorem v_l_like : ∀ x ∈ V_l_like, VisOk (defScope s_l_like) x = true := by decide +kernel
theorem l_l_like : ∀ x ∈ L_l_like, LocOk (defScope s_l_like) x = true := by decide +kernel
theorem g_l_like : ∀ x ∈ G_l_like, GlOk (defScope s_l_like) x = true := by decide +kernel
abbrev s_l_reached : Stmt := top 33
abbrev N_l_reached : List Str := ["_law_plain", "_law_start", "_law_found", "_law_k", "_law_goal"]
abbrev P_l_reached : List Str := ["_law_plain", "_law_start"]
abbrev V_l_reached : List Str := ["_law_plain", "_law_start", "_law_found", "_law_k", "_law_goal"]
abbrev L_l_reached : List Str := ["_law_plain", "_law_start", "_law_found", "_law_k", "_law_goal"]
abbrev G_l_reached : List Str := ["len", "sorted"]
theorem sc_l_reached : FnScope N_l_reached P_l_reached (defScope s_l_reached) :=
  ⟨rfl, rfl, rfl, by decide +kernel, rfl, by decide +kernel, by decide +kernel⟩
theorem v_l_reached : ∀ x ∈ V_l_reached, VisOk (defScope s_l_reached) x = true := by decide +kernel
theorem l_l_reached : ∀ x ∈ L_l_reached, LocOk (defScope s_l_reached) x = true := by decide +kernel
theorem g_l_reached : ∀ x ∈ G_l_reached, GlOk (defScope s_l_reached) x = true := by decide +kernel
abbrev s_l_lengths : Stmt := top 34
abbrev N_l_lengths : List Str := ["_law_plain", "_law_start", "_law_found", "_law_line", "_law_k", "_law_goal"]
abbrev P_l_lengths : List Str := ["_law_plain", "_law_start"]
abbrev V_l_lengths : List Str := ["_law_plain", "_law_start", "_law_found", "_law_line", "_law_k", "_law_goal"]
abbrev L_l_lengths : List Str := ["_law_plain", "_law_start", "_law_found", "_law_line", "_law_k", "_law_goal"]
abbrev G_l_lengths : List Str := ["len"]
theorem sc_l_lengths : FnScope N_l_lengths P_l_lengths (defScope s_l_lengths) :=
  ⟨rfl, rfl, rfl, by decide +kernel, rfl, by decide +kernel, by decide +kernel⟩
theorem v_l_lengths : ∀ x ∈ V_l_lengths, VisOk (defScope s_l_lengths) x = true := by decide +kernel
theorem l_l_lengths : ∀ x ∈ L_l_lengths, LocOk (defScope s_l_lengths) x = true := by decide +kernel
theorem g_l_lengths : ∀ x ∈ G_l_lengths, GlOk (defScope s_l_lengths) x = true := by decide +kernel
abbrev s_l_way_right : Stmt := top 35
abbrev N_l_way_right : List Str := ["_law_scale_here", "_law_plain", "_law_start", "_law_goal", "_law_lengths_here", "_law_told", "_law_claims"]
abbrev P_l_way_right : List Str := ["_law_scale_here", "_law_plain", "_law_start", "_law_goal", "_law_lengths_here"]
abbrev V_l_way_right : List Str := ["_law_scale_here", "_law_plain", "_law_start", "_law_goal", "_law_lengths_here", "_law_told"]
abbrev L_l_way_right : List Str := ["_law_scale_here", "_law_plain", "_law_start", "_law_goal", "_law_lengths_here", "_law_told"]
abbrev G_l_way_right : List Str := ["isinstance", "list", "all", "len", "_law_classes"]
theorem sc_l_way_right : FnScope N_l_way_right P_l_way_right (defScope s_l_way_right) :=
  ⟨rfl, rfl, rfl, by decide +kernel, rfl, by decide +kernel, by decide +kernel⟩
theorem v_l_way_right : ∀ x ∈ V_l_way_right, VisOk (defScope s_l_way_right) x = true := by decide +kernel
theorem l_l_way_right : ∀ x ∈ L_l_way_right, LocOk (defScope s_l_way_right) x = true := by decide +kernel
theorem g_l_way_right : ∀ x ∈ G_l_way_right, GlOk (defScope s_l_way_right) x = true := by decide +kernel
/-- l_way_right, comprehension 0: _law_claims -/
abbrev Vc_l_way_right_0 : List Str := ["_law_claims"]
abbrev Gc_l_way_right_0 : List Str := ["_law_number"]
abbrev own_l_way_right_0 : List (Str × Nat) := [("_law_claims", 6)]
abbrev s_l_start_right : Stmt := top 36
abbrev N_l_start_right : List Str := ["_law_bag_here", "_law_scale_here", "_law_plain", "_law_start", "_law_lengths_here", "_law_goal", "_law_told"]
abbrev P_l_start_right : List Str := ["_law_bag_here", "_law_scale_here", "_law_plain", "_law_start"]
abbrev V_l_start_right : List Str := ["_law_bag_here", "_law_scale_here", "_law_plain", "_law_start", "_law_lengths_here", "_law_goal", "_law_told"]
abbrev L_l_start_right : List Str := ["_law_bag_here", "_law_scale_here", "_law_plain", "_law_start", "_law_lengths_here", "_law_goal", "_law_told"]
abbrev G_l_start_right : List Str := ["_law_lengths", "_law_draw", "len", "_law_way_right", "sorted", "_law_reached", "_law_mixed", "list", "range"]
theorem sc_l_start_right : FnScope N_l_start_right P_l_start_right (defScope s_l_start_right) :=
  ⟨rfl, rfl, rfl, by decide +kernel, rfl, by decide +kernel, by decide +kernel⟩
theorem v_l_start_right : ∀ x ∈ V_l_start_right, VisOk (defScope s_l_start_right) x = true := by decide +kernel
theorem l_l_start_right : ∀ x ∈ L_l_start_right, LocOk (defScope s_l_start_right) x = true := by decide +kernel
theorem g_l_start_right : ∀ x ∈ G_l_start_right, GlOk (defScope s_l_start_right) x = true := by decide +kernel
abbrev s_law : Stmt := top 37
abbrev N_law : List Str := ["_law_script", "_law_bag_here", "_law_plains", "_law_scales", "_law_starts", "_law_which", "_law_turn", "_law_start", "_law_plain"]
abbrev P_law : List Str := ["_law_script"]
abbrev V_law : List Str := ["_law_script", "_law_bag_here", "_law_plains", "_law_scales", "_law_starts", "_law_which", "_law_turn", "_law_start"]
abbrev L_law : List Str := ["_law_script", "_law_bag_here", "_law_plains", "_law_scales", "_law_starts", "_law_which", "_law_turn", "_law_start"]
abbrev G_law : List Str := ["_law_bag", "_law_scale", "_law_draw", "range", "len", "_law_mixed", "_law_start_right", "_law_like"]
theorem sc_law : FnScope N_law P_law (defScope s_law) :=
  ⟨rfl, rfl, rfl, by decide +kernel, rfl, by decide +kernel, by decide +kernel⟩
theorem v_law : ∀ x ∈ V_law, VisOk (defScope s_law) x = true := by decide +kernel
theorem l_law : ∀ x ∈ L_law, LocOk (defScope s_law) x = true := by decide +kernel
theorem g_law : ∀ x ∈ G_law, GlOk (defScope s_law) x = true := by decide +kernel
/-- law, comprehension 0: _law_plain -/
abbrev Vc_law_0 : List Str := ["_law_plain"]
abbrev Gc_law_0 : List Str := ["_law_made"]
abbrev own_law_0 : List (Str × Nat) := [("_law_plain", 8)]
/-- law, comprehension 1: _law_start -/
abbrev Vc_law_1 : List Str := ["_law_start", "_law_which"]
abbrev Gc_law_1 : List Str := []
abbrev own_law_1 : List (Str × Nat) := [("_law_start", 7)]

/-- a place in a list of names -/
local macro_rules | `(tactic| array_get_dec) => `(tactic| repeat (first | exact At.z | apply At.s))
/-- one step -/
local macro_rules | `(tactic| decreasing_trivial_pre_omega) => `(tactic| with_reducible first
  | (refine we_int ?_)
  | (refine we_bl ?_)
  | (refine we_non ?_)
  | (refine we_str ?_)
  | (refine dl_name (by assumption) (by array_get_dec) (by array_get_dec) (by with_unfolding_all rfl) ?_)
  | (refine dl_ixOwn (by assumption) (by array_get_dec) (by array_get_dec) (by with_unfolding_all rfl) (by with_unfolding_all exact fun _ _ => rfl) ?_)
  | (refine we_ix (by with_unfolding_all exact fun _ _ => rfl) ?_)
  | (refine we_add ?_)
  | (refine we_sub ?_)
  | (refine we_muls ?_)
  | (refine we_mod ?_)
  | (refine we_fdiv ?_)
  | (refine we_pow ?_)
  | (refine we_lt ?_) | (refine we_le ?_) | (refine we_gt ?_) | (refine we_ge ?_)
  | (refine we_lele (by with_unfolding_all rfl) ?_) | (refine wt_lele (by with_unfolding_all rfl) ?_)
  | (refine wt_lt ?_) | (refine wt_le ?_) | (refine wt_gt ?_) | (refine wt_ge ?_) | (refine wt_eqI ?_)
  | (refine wt_neI ?_) | (refine wt_isN ?_) | (refine wt_notN ?_) | (refine we_isN ?_) | (refine we_notN ?_)
  | (refine wa_nil ?_)
  | (refine wa_cons ?_ (by with_unfolding_all rfl))
  | (refine dl_len (by assumption) (by assumption) (by array_get_dec) (by array_get_dec) (by with_unfolding_all rfl) ?_)
  | (refine dl_abs (by assumption) (by assumption) (by array_get_dec) (by array_get_dec) (by with_unfolding_all rfl) ?_)
  | (refine dl_int (by assumption) (by assumption) (by array_get_dec) (by array_get_dec) (by with_unfolding_all rfl) ?_)
  | (refine dl_min (by assumption) (by assumption) (by array_get_dec) (by array_get_dec) (by with_unfolding_all rfl) (by with_unfolding_all rfl) ?_)
  | (refine dl_max (by assumption) (by assumption) (by array_get_dec) (by array_get_dec) (by with_unfolding_all rfl) (by with_unfolding_all rfl) ?_)
  | (refine dl_isi (by assumption) (by assumption) (by array_get_dec) (by array_get_dec) (by with_unfolding_all rfl) (by with_unfolding_all rfl) ?_)
  | (refine dl_all (by assumption) (by assumption) (by array_get_dec) (by array_get_dec) (by with_unfolding_all rfl) ?_)
  | (refine dl_list (by assumption) (by assumption) (by array_get_dec) (by array_get_dec) (by with_unfolding_all rfl) ?_)
  | (refine dl_tuple (by assumption) (by assumption) (by array_get_dec) (by array_get_dec) (by with_unfolding_all rfl) ?_)
  | (refine dl_ty (by assumption) (by assumption) boot_int (by array_get_dec) (by array_get_dec) ?_)
  | (refine dl_ty (by assumption) (by assumption) boot_bool (by array_get_dec) (by array_get_dec) ?_)
  | (refine dl_ty (by assumption) (by assumption) boot_list (by array_get_dec) (by array_get_dec) ?_)
  | (refine dl_pure (by assumption) (by assumption) (by array_get_dec) (by decide) (by with_unfolding_all rfl) (by with_unfolding_all rfl) ?_)
  | (refine dl_bag (by assumption) (by assumption) (by array_get_dec) (by decide) (by with_unfolding_all rfl) (by with_unfolding_all rfl) ?_)
  | (refine dl_glob (d := .int _) (v := .int _) (u := .int _ _) (by assumption) (by array_get_dec) (by assumption) (by with_unfolding_all exact ⟨_, rfl⟩) (by with_unfolding_all rfl) ?_)
  | (refine we_one ?_) | (refine we_eqI ?_) | (refine we_not ?_) | (refine we_and ?_) | (refine we_or ?_)
  | (refine wt_val ?_ (by with_unfolding_all exact fun _ => rfl))
  | (refine wss_nil ?_)
  | (refine ws_ret ?_)
  | (refine ws_if ?_)
  | (refine WW.wt (ww_and ?_)) | (refine WW.wt (ww_or ?_))
  | (refine wt_not ?_)
  | (refine ww_and ?_) | (refine ww_or ?_) | (refine ww_and1 ?_) | (refine ww_or1 ?_)
  | (refine dl_set (by assumption) (by array_get_dec) (by array_get_dec) (by with_unfolding_all rfl) ?_)
  | (refine dl_setIx (by assumption) (by array_get_dec) (by array_get_dec) (by with_unfolding_all rfl) (by with_unfolding_all exact fun _ => rfl) (by with_unfolding_all rfl) (by with_unfolding_all rfl) (by with_unfolding_all rfl) ?_)
  | (refine ite_t ?_) | (refine ite_f ?_)
  | (with_unfolding_all refine ⟨_, rfl, ?_⟩))
abbrev BI : List Str := ["len", "int", "abs", "min", "max", "range", "list", "sum", "sorted", "all", "any", "isinstance", "tuple", "bool", "enumerate"]
/-! ### what the package says of given lists -/
def betw (d : D) (lo hi : Int) : Bool := match d with | .int z => decide (lo ≤ z) && decide (z ≤ hi) | _ => false
def lstOf (d : D) (f m h : Int) : Bool := match d with | .lst ds => (decide (f ≤ ds.length) && decide ((ds.length : Int) ≤ m)) && ds.all (betw · 0 h) | _ => false
def wide (d : D) : Nat := match d with | .lst ds => ds.length | _ => 0
def tabOf (d : D) (n : Int) : Bool := match d with | .lst ds => decide ((ds.length : Int) = n) && (ds.all (lstOf · 1 5 (n - 1)) && ds.all fun l => decide (wide l = wide (ds.headD .non))) | _ => false
def flatP (d : D) : Prop := d.plain ∧ ∀ ds, d = .lst ds → ds.length ≤ 1000000 ∧ ∀ e ∈ ds, e.plain
def deepP (d : D) : Prop := d.plain ∧ ∀ ds, d = .lst ds → ds.length ≤ 1000000 ∧ ∀ e ∈ ds, flatP e
def A_isInt (ds : List D) (P : D → Prop) : Prop := ∃ d, ds = [d] ∧ d.plain ∧ P (.bl d.isInt)
def A_betw (ds : List D) (P : D → Prop) : Prop := ∃ d lo hi, ds = [d, .int lo, .int hi] ∧ d.plain ∧ P (.bl (betw d lo hi))
def A_lstOf (ds : List D) (P : D → Prop) : Prop := ∃ d f m h, ds = [d, .int f, .int m, .int h] ∧ flatP d ∧ P (.bl (lstOf d f m h))
def A_tab (ds : List D) (P : D → Prop) : Prop := ∃ d n, ds = [d, .int n] ∧ deepP d ∧ P (.bl (tabOf d n))
def A_chkP (BP : Addr) (ds : List D) (P : D → Prop) (PX : Addr → List (Str × D) → Prop) : Prop := ∃ d, ds = [d] ∧ flatP d ∧ (lstOf d 1 12 1000000 = true → P .non) ∧ (lstOf d 1 12 1000000 = false → PX BP [])
def A_scale (BP BT : Addr) (ds : List D) (P : List (Str × D) → Prop) (PX : Addr → List (Str × D) → Prop) : Prop := ∃ p t, ds = [p, t] ∧ flatP p ∧ deepP t ∧
  (lstOf p 1 12 1000000 = true → tabOf t (wide p) = true → P [("prices", p), ("moves", t)]) ∧ (lstOf p 1 12 1000000 = false → PX BP []) ∧ (lstOf p 1 12 1000000 = true → tabOf t (wide p) = false → PX BT [])
section
variable {P : Program} {w : World} {K : PySem.W.Frag} {mg : Str → Option Value} {base : Heap} {f : Addr} {fd : FuncData}
theorem ok_isInt (F : Fun K "is_integer" "is_integer" s_p_is_integer f fd) (bn : NoMg mg BI) : FnOk P w K mg base (L2.CX P w) 1 f fd P_p_is_integer (spD K none 1 A_isInt) := by
  refine Fun.okD2 (Vn := V_p_is_integer) (L := L_p_is_integer) (G := G_p_is_integer) F sc_p_is_integer v_p_is_integer l_p_is_integer g_p_is_integer fun X ds Q dx hl hA => ?_
  obtain ⟨d, rfl, ⟨n, hn⟩, q⟩ := hA
  refine wss_cons ?_
  repeat decreasing_trivial_pre_omega
  refine ⟨n, "int", _, hn, rfl, kit_int hn, ?_⟩
  repeat decreasing_trivial_pre_omega
  refine ite_b (fun h => ?_) (fun h => ?_)
  · repeat decreasing_trivial_pre_omega
    refine ⟨n, "bool", _, hn, rfl, kit_bool hn, ?_⟩
    repeat decreasing_trivial_pre_omega
    show Q (.bl (!d.isBl))
    rwa [show (!d.isBl) = d.isInt by cases d <;> first | rfl | cases h]
  · rwa [show d.isInt = false by cases d <;> first | rfl | cases h] at q
theorem ok_betw (F : Fun K "is_between" "is_between" s_p_is_between f fd) (bn : NoMg mg BI) (f1 : FnAt P w K mg base "is_integer" 1 P_p_is_integer (spD K none 1 A_isInt)) : FnOk P w K mg base (L2.CX P w) 2 f fd P_p_is_between (spD K none 3 A_betw) := by
  refine Fun.okD2 (Vn := V_p_is_between) (L := L_p_is_between) (G := G_p_is_between) F sc_p_is_between v_p_is_between l_p_is_between g_p_is_between fun X ds Q dx hl hA => ?_
  obtain ⟨d, lo, hi, rfl, hd, q⟩ := hA
  refine wss_cons ?_
  repeat decreasing_trivial_pre_omega
  refine ⟨rfl, d, rfl, hd, ?_⟩
  repeat decreasing_trivial_pre_omega
  refine ite_b (fun h => ?_) (fun h => ?_)
  · cases d <;> first | cases h | skip
    rename_i z
    repeat decreasing_trivial_pre_omega
    refine ite_d (fun h1 => ?_) (fun h1 => ?_)
    · repeat decreasing_trivial_pre_omega
      have q1 : Q (.bl (decide (lo ≤ z) && decide (z ≤ hi))) := q
      rw [decide_eq_true h1, Bool.true_and] at q1
      exact q1
    · have q1 : Q (.bl (decide (lo ≤ z) && decide (z ≤ hi))) := q
      rw [decide_eq_false h1, Bool.false_and] at q1
      exact q1
  · rwa [show betw d lo hi = false by cases d <;> first | rfl | cases h] at q
theorem asBls_map {ds : List D} {Q : List Bool → Prop} {u : D → Bool} {es : List D} (hl : es.length = ds.length) (h : ∀ (i : Nat) (e : D), es[i]? = some e → ∀ d, ds[i]? = some d → e = .bl (u d)) (q : Q (ds.map u)) : asBls (.lst es) Q := by
  refine ⟨ds.map u, ?_, q⟩
  congr 1
  refine List.ext_getElem? fun i => ?_
  rw [List.map_map, List.getElem?_map]
  cases e : es[i]? with
  | none =>
    have : ds[i]? = none := by rw [List.getElem?_eq_none_iff] at e ⊢; omega
    rw [this]
    rfl
  | some x =>
    have hi : i < ds.length := by
      have := (List.getElem?_eq_some_iff.mp e).1
      omega
    rw [List.getElem?_eq_getElem hi, h i x e _ (List.getElem?_eq_getElem hi)]
    rfl
theorem all_map_id {ds : List D} {u : D → Bool} : (ds.map u).all id = ds.all u := by rw [List.all_map]; rfl
theorem ok_lstOf (F : Fun K "is_list_of" "is_list_of" s_p_is_list_of f fd) (bn : NoMg mg BI) (f1 : FnAt P w K mg base "is_between" 2 P_p_is_between (spD K none 3 A_betw)) : FnOk P w K mg base (L2.CX P w) 3 f fd P_p_is_list_of (spD K none 4 A_lstOf) := by
  refine Fun.okD2 (Vn := V_p_is_list_of) (L := L_p_is_list_of) (G := G_p_is_list_of) F sc_p_is_list_of v_p_is_list_of l_p_is_list_of g_p_is_list_of fun X ds Q dx hl hA => ?_
  obtain ⟨d, f, m, h, rfl, ⟨⟨n, hn⟩, hd⟩, q⟩ := hA
  refine wss_cut (fun ev => ev = envOf N_p_is_list_of [d, .int f, .int m, .int h] ∧ ∃ ds, d = .lst ds ∧ f ≤ ds.length ∧ (ds.length : Int) ≤ m) ?_ ?_
  · repeat decreasing_trivial_pre_omega
    refine ⟨n, "list", _, hn, rfl, kit_list hn, ?_⟩
    repeat decreasing_trivial_pre_omega
    refine ite_b (fun h1 => ?_) (fun h1 => ?_)
    · repeat decreasing_trivial_pre_omega
      refine wss_cons ?_
      repeat decreasing_trivial_pre_omega
      show Q (.bl false)
      rwa [show lstOf d f m h = false by cases d <;> first | rfl | cases h1] at q
    · cases d <;> first | cases h1 | skip
      rename_i ds
      repeat decreasing_trivial_pre_omega
      have q1 : Q (.bl ((decide (f ≤ (ds.length : Int)) && decide ((ds.length : Int) ≤ m)) && ds.all (betw · 0 h))) := q
      refine ite_d (fun h2 => ?_) (fun h2 => ?_)
      · repeat decreasing_trivial_pre_omega
        refine ite_nd (fun h3 => ?_) (fun h3 => ?_)
        · refine wss_cons ?_
          repeat decreasing_trivial_pre_omega
          rw [decide_eq_true h2, decide_eq_false h3] at q1
          exact q1
        · repeat decreasing_trivial_pre_omega
          exact ⟨rfl, ds, rfl, h2, h3⟩
      · repeat decreasing_trivial_pre_omega
        refine wss_cons ?_
        repeat decreasing_trivial_pre_omega
        rw [decide_eq_false h2] at q1
        exact q1
  · rintro ev ⟨rfl, ds, rfl, h1, h2⟩
    obtain ⟨hd1, hd2⟩ := hd ds rfl
    refine wss_cons ?_
    repeat decreasing_trivial_pre_omega
    refine WL.we ?_
    refine dl_comp 4 own_p_is_list_of_0 Vc_p_is_list_of_0 Gc_p_is_list_of_0 (by assumption) (by decide +kernel) rfl (by array_get_dec) (by decide +kernel) (by decide +kernel) (by decide +kernel) (by with_unfolding_all exact fun _ => rfl) ?_
    repeat decreasing_trivial_pre_omega
    refine ⟨hd1, fun i e => ∀ d, ds[i]? = some d → e = .bl (betw d 0 h), fun i d hi X' dx' hK => ?_, fun es hes hE => ?_⟩
    · repeat decreasing_trivial_pre_omega
      refine ⟨rfl, d, 0, h, rfl, hd2 d (List.mem_of_getElem? hi), fun d' hd' => ?_⟩
      rw [hi] at hd'
      cases hd'
      rfl
    · refine asBls_map hes hE ?_
      show Q (.bl _)
      rw [all_map_id]
      have q1 : Q (.bl ((decide (f ≤ (ds.length : Int)) && decide ((ds.length : Int) ≤ m)) && ds.all (betw · 0 h))) := q
      rw [decide_eq_true h1, decide_eq_true h2] at q1
      exact q1
theorem ok_chkP {BP : Addr} (F : Fun K "check_premiums" "check_premiums" s_p_check_premiums f fd) (bn : NoMg mg BI) (f1 : FnAt P w K mg base "is_list_of" 3 P_p_is_list_of (spD K none 4 A_lstOf)) {t1 t2 : Tok} (hc : mg "MOST_CLASSES" = some (.int 12 t1)) (hp : mg "MOST_PREMIUM" = some (.int 1000000 t2)) (he : ErrAt K mg "BadPremiums" BP) :
    FnOk P w K mg base (L2.CX P w) 4 f fd P_p_check_premiums (spX K 1 (A_chkP BP)) := by
  refine Fun.okX2 (Vn := V_p_check_premiums) (L := L_p_check_premiums) (G := G_p_check_premiums) F sc_p_check_premiums v_p_check_premiums l_p_check_premiums g_p_check_premiums fun X ds Q QX dx hl hA => ?_
  obtain ⟨d, rfl, hd, q1, q2⟩ := hA
  refine wss_cons ?_
  repeat decreasing_trivial_pre_omega
  refine ⟨rfl, d, 1, 12, 1000000, rfl, hd, ?_⟩
  repeat decreasing_trivial_pre_omega
  refine ite_b (fun h1 => ?_) (fun h1 => ?_)
  · refine wss_cons ?_
    refine dl_raise0 dx he (by array_get_dec) ?_
    exact q2 (by simpa using h1)
  · repeat decreasing_trivial_pre_omega
    exact q1 (by simpa using h1)
theorem ok_tab (F : Fun K "is_table" "is_table" s_p_is_table f fd) (bn : NoMg mg BI) (f1 : FnAt P w K mg base "is_list_of" 3 P_p_is_list_of (spD K none 4 A_lstOf)) {t1 : Tok} (hc : mg "MOST_COLUMNS" = some (.int 5 t1)) :
    FnOk P w K mg base (L2.CX P w) 4 f fd P_p_is_table (spD K none 2 A_tab) := by
  refine Fun.okD2 (Vn := V_p_is_table) (L := L_p_is_table) (G := G_p_is_table) F sc_p_is_table v_p_is_table l_p_is_table g_p_is_table fun X ds Q dx hl hA => ?_
  obtain ⟨d, n, rfl, ⟨⟨m, hn⟩, hd⟩, q⟩ := hA
  refine wss_cut (fun ev => ev = envOf N_p_is_table [d, .int n] ∧ ∃ ds, d = .lst ds ∧ (ds.length : Int) = n) ?_ ?_
  · repeat decreasing_trivial_pre_omega
    refine ⟨m, "list", _, hn, rfl, kit_list hn, ?_⟩
    repeat decreasing_trivial_pre_omega
    refine ite_b (fun h1 => ?_) (fun h1 => ?_)
    · repeat decreasing_trivial_pre_omega
      refine wss_cons ?_
      repeat decreasing_trivial_pre_omega
      show Q (.bl false)
      rwa [show tabOf d n = false by cases d <;> first | rfl | cases h1] at q
    · cases d <;> first | cases h1 | skip
      rename_i ds
      repeat decreasing_trivial_pre_omega
      have q1 : Q (.bl (decide ((ds.length : Int) = n) && (ds.all (lstOf · 1 5 (n - 1)) && ds.all fun l => decide (wide l = wide (ds.headD .non))))) := q
      refine ite_nd (fun h3 => ?_) (fun h3 => ?_)
      · refine wss_cons ?_
        repeat decreasing_trivial_pre_omega
        rw [decide_eq_false h3] at q1
        exact q1
      · repeat decreasing_trivial_pre_omega
        exact ⟨rfl, ds, rfl, h3⟩
  · rintro ev ⟨rfl, ds, rfl, h1⟩
    obtain ⟨hd1, hd2⟩ := hd ds rfl
    have q1 : Q (.bl (decide ((ds.length : Int) = n) && (ds.all (lstOf · 1 5 (n - 1)) && ds.all fun l => decide (wide l = wide (ds.headD .non))))) := q
    rw [decide_eq_true h1, Bool.true_and] at q1
    refine wss_cut (fun ev => ev = envOf N_p_is_table [.lst ds, .int n] ∧ ds.all (lstOf · 1 5 (n - 1)) = true) ?_ ?_
    · repeat decreasing_trivial_pre_omega
      refine WL.we ?_
      refine dl_comp 2 own_p_is_table_0 Vc_p_is_table_0 Gc_p_is_table_0 (by assumption) (by decide +kernel) rfl (by array_get_dec) (by decide +kernel) (by decide +kernel) (by decide +kernel) (by with_unfolding_all exact fun _ => rfl) ?_
      repeat decreasing_trivial_pre_omega
      refine ⟨hd1, fun i e => ∀ d, ds[i]? = some d → e = .bl (lstOf d 1 5 (n - 1)), fun i d hi X' dx' hK => ?_, fun es hes hE => ?_⟩
      · repeat decreasing_trivial_pre_omega
        refine ⟨rfl, d, 1, 5, n - 1, rfl, hd2 d (List.mem_of_getElem? hi), fun d' hd' => ?_⟩
        rw [hi] at hd'
        cases hd'
        rfl
      · refine asBls_map hes hE ?_
        repeat decreasing_trivial_pre_omega
        rw [all_map_id]
        refine ite_b (fun h2 => ?_) (fun h2 => ?_)
        · refine wss_cons ?_
          repeat decreasing_trivial_pre_omega
          rw [show ds.all (lstOf · 1 5 (n - 1)) = false by simpa using h2] at q1
          exact q1
        · repeat decreasing_trivial_pre_omega
          exact ⟨rfl, by simpa using h2⟩
    · rintro ev ⟨rfl, h2⟩
      rw [h2, Bool.true_and] at q1
      refine wss_cons ?_
      repeat decreasing_trivial_pre_omega
      refine WL.we ?_
      refine dl_comp 2 own_p_is_table_1 Vc_p_is_table_1 Gc_p_is_table_1 (by assumption) (by decide +kernel) rfl (by array_get_dec) (by decide +kernel) (by decide +kernel) (by decide +kernel) (by with_unfolding_all exact fun _ => rfl) ?_
      repeat decreasing_trivial_pre_omega
      refine ⟨hd1, fun i e => ∀ d, ds[i]? = some d → e = .bl (decide (wide d = wide (ds.headD .non))), fun i d hi X' dx' hK => ?_, fun es hes hE => ?_⟩
      · have hall := List.all_eq_true.mp h2
        have hds : ∃ l0 r, ds = l0 :: r := by
          cases ds with
          | nil => cases hi
          | cons a b => exact ⟨a, b, rfl⟩
        obtain ⟨l0, r, rfl⟩ := hds
        have hd := hall d (List.mem_of_getElem? hi)
        have h0 := hall l0 (List.mem_cons_self ..)
        cases d <;> first | cases hd | skip
        cases l0 <;> first | cases h0 | skip
        repeat decreasing_trivial_pre_omega
        refine ⟨_, atI_nat (j := 0) rfl, ?_⟩
        repeat decreasing_trivial_pre_omega
        intro d' hd'
        rw [hi] at hd'
        cases hd'
        refine congrArg D.bl (decide_eq_decide.mpr ⟨fun h => ?_, fun h => ?_⟩)
        · exact Int.ofNat_inj.mp h
        · exact congrArg Int.ofNat h
      · refine asBls_map hes hE ?_
        show Q (.bl _)
        rw [all_map_id]
        exact q1
theorem same_all {es ds : List D} (hl : es.length = ds.length) (h : ∀ (i : Nat) (e : D), es[i]? = some e → ds[i]? = some e) : es = ds := by
  refine List.ext_getElem? fun i => ?_
  cases e : es[i]? with
  | none =>
    have : ds[i]? = none := by rw [List.getElem?_eq_none_iff] at e ⊢; omega
    rw [this]
  | some x => rw [h i x e]
theorem ok_scale {C BP BT : Addr} (F : Fun K "__init__" "Scale.__init__" s_Scale_init f fd) (bn : NoMg mg BI) (f1 : FnAt P w K mg base "check_premiums" 4 P_p_check_premiums (spX K 1 (A_chkP BP))) (f2 : FnAt P w K mg base "is_table" 4 P_p_is_table (spD K none 2 A_tab))
    (he : ErrAt K mg "BadTable" BT) (hC : Cls K C) (n1 : NoAttr K C "prices") (n2 : NoAttr K C "moves") : FnOk P w K mg base (L2.CX P w) 5 f fd P_Scale_init (spIX K C 2 (A_scale BP BT)) := by
  refine Fun.okInitX (Vn := V_Scale_init) (L := L_Scale_init) (G := G_Scale_init) F sc_Scale_init rfl v_Scale_init l_Scale_init g_Scale_init fun X q0 ds Q QX dx hl hA => ?_
  obtain ⟨p, t, rfl, hp, ht, qA, qB, qC⟩ := hA
  refine wss_cons ?_
  refine dl_exprX dx f1 (by array_get_dec) (by decide) rfl rfl rfl ?_
  repeat decreasing_trivial_pre_omega
  refine ⟨rfl, p, rfl, hp, fun h1 => ?_, fun h1 => ⟨⟨_, rfl⟩, qB h1⟩⟩
  refine wss_cons ?_
  have hpl : ∃ ps, p = .lst ps ∧ wide p = ps.length := by cases p <;> first | cases h1 | exact ⟨_, rfl, rfl⟩
  obtain ⟨ps, rfl, hw⟩ := hpl
  rw [hw] at qA qC
  repeat decreasing_trivial_pre_omega
  refine ⟨rfl, t, ps.length, rfl, ht, ?_⟩
  repeat decreasing_trivial_pre_omega
  refine ite_b (fun h2 => ?_) (fun h2 => ?_)
  · refine wss_cons ?_
    refine dl_raise0 dx he (by array_get_dec) ?_
    exact ⟨⟨_, rfl⟩, qC h1 (by simpa using h2)⟩
  replace h2 : tabOf t ps.length = true := by simpa using h2
  repeat decreasing_trivial_pre_omega
  refine wss_cons ?_
  refine dl_setFld dx (by array_get_dec) (by array_get_dec) rfl rfl hC n1 (by decide) (WL.we ?_)
  repeat decreasing_trivial_pre_omega
  refine wss_cons ?_
  refine dl_setFld dx (by array_get_dec) (by array_get_dec) rfl rfl hC n2 (by with_unfolding_all exact (by decide : 1 < 1000)) (WL.we ?_)
  refine dl_comp 3 own_Scale_init_0 Vc_Scale_init_0 Gc_Scale_init_0 (by assumption) (by decide +kernel) rfl (by array_get_dec) (by decide +kernel) (by decide +kernel) (by decide +kernel) (by with_unfolding_all exact fun _ => rfl) ?_
  obtain ⟨ts, rfl, hall⟩ : ∃ ts, t = .lst ts ∧ ∀ e ∈ ts, lstOf e 1 5 (ps.length - 1) = true := by
    cases t <;> first | cases h2 | skip
    rename_i ts
    unfold tabOf at h2
    rw [Bool.and_eq_true, Bool.and_eq_true] at h2
    exact ⟨ts, rfl, List.all_eq_true.mp h2.2.1⟩
  repeat decreasing_trivial_pre_omega
  refine ⟨(ht.2 ts rfl).1, fun i e => ts[i]? = some e, fun i d hi X' dx' hK => ?_, fun es hes hE => ?_⟩
  · have hd := hall d (List.mem_of_getElem? hi)
    cases d <;> first | cases hd | skip
    refine WL.we ?_
    repeat decreasing_trivial_pre_omega
    exact hi
  · rw [same_all hes hE]
    refine wss_nil ?_
    exact ⟨_, rfl, qA h1 h2⟩
end
end My
set_option Elab.async false
set_option linter.all false
set_option maxRecDepth 100000
set_option autoImplicit false
set_option pp.deepTerms false
set_option pp.deepTerms.threshold 7
set_option pp.maxSteps 1500
set_option maxHeartbeats 1600000
namespace My
open PySem L2 DL
/-- a place in a list of names -/
local macro_rules | `(tactic| array_get_dec) => `(tactic| repeat (first | exact At.z | apply At.s))
/-- one step -/
local macro_rules | `(tactic| decreasing_trivial_pre_omega) => `(tactic| with_reducible first
  | (refine we_int ?_)
  | (refine we_bl ?_)
  | (refine we_non ?_)
  | (refine we_str ?_)
  | (refine dl_name (by assumption) (by array_get_dec) (by array_get_dec) (by with_unfolding_all rfl) ?_)
  | (refine dl_ixOwn (by assumption) (by array_get_dec) (by array_get_dec) (by with_unfolding_all rfl) (by with_unfolding_all exact fun _ _ => rfl) ?_)
  | (refine we_ix (by with_unfolding_all exact fun _ _ => rfl) ?_)
  | (refine we_add ?_)
  | (refine we_sub ?_)
  | (refine we_muls ?_)
  | (refine we_mod ?_)
  | (refine we_fdiv ?_)
  | (refine we_pow ?_)
  | (refine we_lt ?_) | (refine we_le ?_) | (refine we_gt ?_) | (refine we_ge ?_)
  | (refine we_lele (by with_unfolding_all rfl) ?_) | (refine wt_lele (by with_unfolding_all rfl) ?_)
  | (refine wt_lt ?_) | (refine wt_le ?_) | (refine wt_gt ?_) | (refine wt_ge ?_) | (refine wt_eqI ?_)
  | (refine wt_neI ?_) | (refine wt_isN ?_) | (refine wt_notN ?_) | (refine we_isN ?_) | (refine we_notN ?_)
  | (refine wa_nil ?_)
  | (refine wa_cons ?_ (by with_unfolding_all rfl))
  | (refine dl_len (by assumption) (by assumption) (by array_get_dec) (by array_get_dec) (by with_unfolding_all rfl) ?_)
  | (refine dl_abs (by assumption) (by assumption) (by array_get_dec) (by array_get_dec) (by with_unfolding_all rfl) ?_)
  | (refine dl_int (by assumption) (by assumption) (by array_get_dec) (by array_get_dec) (by with_unfolding_all rfl) ?_)
  | (refine dl_min (by assumption) (by assumption) (by array_get_dec) (by array_get_dec) (by with_unfolding_all rfl) (by with_unfolding_all rfl) ?_)
  | (refine dl_max (by assumption) (by assumption) (by array_get_dec) (by array_get_dec) (by with_unfolding_all rfl) (by with_unfolding_all rfl) ?_)
  | (refine dl_isi (by assumption) (by assumption) (by array_get_dec) (by array_get_dec) (by with_unfolding_all rfl) (by with_unfolding_all rfl) ?_)
  | (refine dl_all (by assumption) (by assumption) (by array_get_dec) (by array_get_dec) (by with_unfolding_all rfl) ?_)
  | (refine dl_list (by assumption) (by assumption) (by array_get_dec) (by array_get_dec) (by with_unfolding_all rfl) ?_)
  | (refine dl_tuple (by assumption) (by assumption) (by array_get_dec) (by array_get_dec) (by with_unfolding_all rfl) ?_)
  | (refine dl_ty (by assumption) (by assumption) boot_int (by array_get_dec) (by array_get_dec) ?_)
  | (refine dl_ty (by assumption) (by assumption) boot_bool (by array_get_dec) (by array_get_dec) ?_)
  | (refine dl_ty (by assumption) (by assumption) boot_list (by array_get_dec) (by array_get_dec) ?_)
  | (refine dl_pure (by assumption) (by assumption) (by array_get_dec) (by decide) (by with_unfolding_all rfl) (by with_unfolding_all rfl) ?_)
  | (refine dl_bag (by assumption) (by assumption) (by array_get_dec) (by decide) (by with_unfolding_all rfl) (by with_unfolding_all rfl) ?_)
  | (refine dl_glob (d := .int _) (v := .int _) (u := .int _ _) (by assumption) (by array_get_dec) (by assumption) (by with_unfolding_all exact ⟨_, rfl⟩) (by with_unfolding_all rfl) ?_)
  | (refine we_one ?_) | (refine we_eqI ?_) | (refine we_not ?_) | (refine we_and ?_) | (refine we_or ?_)
  | (refine wt_val ?_ (by with_unfolding_all exact fun _ => rfl))
  | (refine wss_nil ?_)
  | (refine ws_ret ?_)
  | (refine ws_if ?_)
  | (refine WW.wt (ww_and ?_)) | (refine WW.wt (ww_or ?_))
  | (refine wt_not ?_)
  | (refine ww_and ?_) | (refine ww_or ?_) | (refine ww_and1 ?_) | (refine ww_or1 ?_)
  | (refine dl_set (by assumption) (by array_get_dec) (by array_get_dec) (by with_unfolding_all rfl) ?_)
  | (refine dl_setIx (by assumption) (by array_get_dec) (by array_get_dec) (by with_unfolding_all rfl) (by with_unfolding_all exact fun _ => rfl) (by with_unfolding_all rfl) (by with_unfolding_all rfl) (by with_unfolding_all rfl) ?_)
  | (refine ite_t ?_) | (refine ite_f ?_)
  | (with_unfolding_all refine ⟨_, rfl, ?_⟩))
theorem atI_ints {ns : List Int} {i : Nat} {z : Int} (h : ns[i]? = some z) : atI (ns.map D.int) (i : Int) = some (.int z) := atI_nat (by rw [List.getElem?_map, h]; rfl)
theorem cmul_bit {x : Int} {b : Bool} : CMul x (if b then 1 else 0) := .inr (by cases b <;> decide)
theorem draw_size {z : Int} (hz : z.natAbs < 2 ^ 1090000) {s t : Bool} :
    0 ≤ (2 * (if z < 0 then -z else z) + if s then 1 else 0) * (if t then 1 else 0) ∧ ((2 * (if z < 0 then -z else z) + if s then 1 else 0) * (if t then 1 else 0)).natAbs < 2 ^ 1100000 := by
  have e : (2 : Nat) ^ 1090000 * 2 ^ 2 ≤ 2 ^ 1100000 := by rw [← Nat.pow_add]; exact Nat.pow_le_pow_right (by decide) (by decide)
  generalize (2 : Nat) ^ 1090000 = B at hz e
  generalize (2 : Nat) ^ 1100000 = B2 at e ⊢
  have h0 : (if z < 0 then -z else z) = (z.natAbs : Int) := by split <;> omega
  rw [h0]
  cases s <;> cases t <;> simp <;> omega
theorem log2_small {n : Int} (h1 : 1 ≤ n) (h : n < 2 ^ 4000) : n.natAbs.log2 < 9000 := by
  refine Nat.lt_of_lt_of_le (PySem.Flt.log2_lt_of (k := 4000) (by decide) ?_) (by decide)
  have e : ((2 : Int) ^ 4000) = ((2 ^ 4000 : Nat) : Int) := by simp
  rw [e] at h
  generalize (2 : Nat) ^ 4000 = B at h ⊢
  omega
section
variable {P : Program} {w : World} {K : PySem.W.Frag} {mg : Str → Option Value} {base : Heap} {f : Addr} {fd : FuncData}
theorem ok_draw (F : Fun K "_law_draw" "_law_draw" s_l_draw f fd) (bn : NoMg mg BI) : FnOk P w K mg base (L2.CX P w) 1 f fd P_l_draw (spB K 2 A_draw) := by
  refine Fun.okDraw2 (Vn := V_l_draw) (L := L_l_draw) (G := G_l_draw) F sc_l_draw rfl v_l_draw l_l_draw g_l_draw fun X n ns i q g c Q dx hn1 hn2 hq0 hq1 hns hQ b l => ?_
  refine wss_cons ?_
  repeat decreasing_trivial_pre_omega
  refine wss_cut (fun env' => ∃ (i : Nat) (q g : Int) (o : Option Slot), env' = [some (.own b (.lst (bagD l ns i q g (c + 1)))), some (.frz (.int n)), o, none, none] ∧ 0 ≤ q ∧ q.natAbs < 2 ^ 1100000) ?_ ?_
  · repeat decreasing_trivial_pre_omega
    refine ite_d (fun hq => ?_) (fun hq => ?_)
    · repeat decreasing_trivial_pre_omega
      refine ite_d (fun hi => ?_) (fun hi => ?_)
      · have hi' : i < ns.length := by rw [List.length_map] at hi; omega
        have hz := hns _ (List.getElem_mem hi')
        generalize hzz : ns[i] = z at hz
        refine wss_cons ?_
        repeat decreasing_trivial_pre_omega
        refine ⟨.int z, atI_ints (by rw [List.getElem?_eq_getElem hi', hzz]), ?_⟩
        refine wss_cons ?_
        repeat decreasing_trivial_pre_omega
        refine wss_cons ?_
        repeat decreasing_trivial_pre_omega
        refine ⟨.inl (by decide), ?_⟩
        repeat decreasing_trivial_pre_omega
        refine ⟨⟨by decide, by decide, by decide⟩, ?_⟩
        repeat decreasing_trivial_pre_omega
        refine ⟨cmul_bit, ?_⟩
        repeat decreasing_trivial_pre_omega
        refine wss_cons ?_
        repeat decreasing_trivial_pre_omega
        refine ⟨.inr (by decide), ?_⟩
        repeat decreasing_trivial_pre_omega
        refine ⟨.inr (by decide), ?_⟩
        repeat decreasing_trivial_pre_omega
        refine ⟨by decide, ?_⟩
        repeat decreasing_trivial_pre_omega
        obtain ⟨h1, h2⟩ := draw_size hz
        exact ⟨i + 1, _, _, _, rfl, h1, h2⟩
      · repeat decreasing_trivial_pre_omega
        exact ⟨i, q, g, none, rfl, hq0, hq1⟩
    · repeat decreasing_trivial_pre_omega
      exact ⟨i, q, g, none, rfl, hq0, hq1⟩
  · rintro env' ⟨i, q, g, o, rfl, hq0, hq1⟩
    refine wss_cons ?_
    repeat decreasing_trivial_pre_omega
    refine ⟨by omega, ?_⟩
    refine wss_cons ?_
    repeat decreasing_trivial_pre_omega
    refine ite_d (fun hq => ?_) (fun hq => ?_)
    · refine wss_cons ?_
      repeat decreasing_trivial_pre_omega
      refine ⟨⟨by omega, log2_small hn1 hn2⟩, ?_⟩
      repeat decreasing_trivial_pre_omega
      refine wss_cons ?_
      repeat decreasing_trivial_pre_omega
      refine ⟨⟨i, q / n, g, c + 1, rfl, Int.ediv_nonneg hq0 (by omega), ?_⟩, _, rfl, hQ _ (Int.emod_nonneg _ (by omega)) (Int.emod_lt_of_pos _ (by omega))⟩
      refine Nat.lt_of_le_of_lt ?_ hq1
      have h1 : q / n ≤ q := Int.ediv_le_self _ hq0
      have h2 : 0 ≤ q / n := Int.ediv_nonneg hq0 (by omega)
      omega
    · repeat decreasing_trivial_pre_omega
      refine wss_cons ?_
      repeat decreasing_trivial_pre_omega
      refine ⟨.inr (by decide), ?_⟩
      repeat decreasing_trivial_pre_omega
      refine ⟨by decide, ?_⟩
      have hm0 := Int.emod_nonneg (g + (c + 1) * 40692) (show (2147483647 : Int) ≠ 0 by decide)
      have hm1 := Int.emod_lt_of_pos (g + (c + 1) * 40692) (show (0 : Int) < 2147483647 by decide)
      generalize (g + (c + 1) * 40692) % 2147483647 = u at hm0 hm1
      refine wss_cons ?_
      repeat decreasing_trivial_pre_omega
      refine ⟨⟨by decide, by decide, by omega⟩, ?_⟩
      repeat decreasing_trivial_pre_omega
      refine ⟨.inr (by decide), ?_⟩
      repeat decreasing_trivial_pre_omega
      refine ⟨by decide, ?_⟩
      have hm2 := Int.emod_nonneg (u ^ Int.toNat 3 + (c + 1) * 16807 + 7) (show (2147483629 : Int) ≠ 0 by decide)
      have hm3 := Int.emod_lt_of_pos (u ^ Int.toNat 3 + (c + 1) * 16807 + 7) (show (0 : Int) < 2147483629 by decide)
      generalize (u ^ Int.toNat 3 + (c + 1) * 16807 + 7) % 2147483629 = u2 at hm2 hm3
      refine wss_cons ?_
      repeat decreasing_trivial_pre_omega
      refine ⟨⟨by decide, by decide, by omega⟩, ?_⟩
      repeat decreasing_trivial_pre_omega
      refine ⟨by decide, ?_⟩
      repeat decreasing_trivial_pre_omega
      refine ⟨⟨by decide, by decide +kernel⟩, ?_⟩
      repeat decreasing_trivial_pre_omega
      refine ⟨by omega, ?_⟩
      exact ⟨⟨i, q, g, c + 1, rfl, hq0, hq1⟩, _, rfl, hQ _ (Int.emod_nonneg _ (by omega)) (Int.emod_lt_of_pos _ (by omega))⟩
end
end My
set_option Elab.async false
set_option linter.all false
set_option maxRecDepth 100000
set_option autoImplicit false
set_option pp.deepTerms false
set_option pp.deepTerms.threshold 7
set_option pp.maxSteps 1500
set_option maxHeartbeats 1600000
namespace My
open PySem L2 DL
/-- a place in a list of names -/
local macro_rules | `(tactic| array_get_dec) => `(tactic| repeat (first | exact At.z | apply At.s))
/-- one step -/
local macro_rules | `(tactic| decreasing_trivial_pre_omega) => `(tactic| with_reducible first
  | (refine we_int ?_)
  | (refine we_bl ?_)
  | (refine we_non ?_)
  | (refine we_str ?_)
  | (refine dl_name (by assumption) (by array_get_dec) (by array_get_dec) (by with_unfolding_all rfl) ?_)
  | (refine dl_ixOwn (by assumption) (by array_get_dec) (by array_get_dec) (by with_unfolding_all rfl) (by with_unfolding_all exact fun _ _ => rfl) ?_)
  | (refine we_ix (by with_unfolding_all exact fun _ _ => rfl) ?_)
  | (refine we_add ?_)
  | (refine we_sub ?_)
  | (refine WL.we (wl_rep (a := .List _ _) ?_)) | (refine wl_rep (a := .List _ _) ?_)
  | (refine we_muls ?_)
  | (refine we_neg ?_)
  | (refine we_mod ?_)
  | (refine we_fdiv ?_)
  | (refine we_pow ?_)
  | (refine we_lt ?_) | (refine we_le ?_) | (refine we_gt ?_) | (refine we_ge ?_)
  | (refine we_lele (by with_unfolding_all rfl) ?_) | (refine wt_lele (by with_unfolding_all rfl) ?_)
  | (refine wt_lt ?_) | (refine wt_le ?_) | (refine wt_gt ?_) | (refine wt_ge ?_) | (refine wt_eqI ?_)
  | (refine wt_neI ?_) | (refine wt_isN ?_) | (refine wt_notN ?_) | (refine we_isN ?_) | (refine we_notN ?_)
  | (refine wa_nil ?_)
  | (refine wa_cons ?_ (by with_unfolding_all rfl))
  | (refine dl_len (by assumption) (by assumption) (by array_get_dec) (by array_get_dec) (by with_unfolding_all rfl) ?_)
  | (refine dl_abs (by assumption) (by assumption) (by array_get_dec) (by array_get_dec) (by with_unfolding_all rfl) ?_)
  | (refine dl_int (by assumption) (by assumption) (by array_get_dec) (by array_get_dec) (by with_unfolding_all rfl) ?_)
  | (refine dl_min (by assumption) (by assumption) (by array_get_dec) (by array_get_dec) (by with_unfolding_all rfl) (by with_unfolding_all rfl) ?_)
  | (refine dl_max (by assumption) (by assumption) (by array_get_dec) (by array_get_dec) (by with_unfolding_all rfl) (by with_unfolding_all rfl) ?_)
  | (refine dl_isi (by assumption) (by assumption) (by array_get_dec) (by array_get_dec) (by with_unfolding_all rfl) (by with_unfolding_all rfl) ?_)
  | (refine dl_all (by assumption) (by assumption) (by array_get_dec) (by array_get_dec) (by with_unfolding_all rfl) ?_)
  | (refine dl_list (by assumption) (by assumption) (by array_get_dec) (by array_get_dec) (by with_unfolding_all rfl) ?_)
  | (refine dl_tuple (by assumption) (by assumption) (by array_get_dec) (by array_get_dec) (by with_unfolding_all rfl) ?_)
  | (refine dl_ty (by assumption) (by assumption) boot_int (by array_get_dec) (by array_get_dec) ?_)
  | (refine dl_ty (by assumption) (by assumption) boot_bool (by array_get_dec) (by array_get_dec) ?_)
  | (refine dl_ty (by assumption) (by assumption) boot_list (by array_get_dec) (by array_get_dec) ?_)
  | (refine dl_pure (by assumption) (by assumption) (by array_get_dec) (by decide) (by with_unfolding_all rfl) (by with_unfolding_all rfl) ?_)
  | (refine dl_bag (by assumption) (by assumption) (by array_get_dec) (by decide) (by with_unfolding_all rfl) (by with_unfolding_all rfl) ?_)
  | (refine dl_glob (d := .int _) (v := .int _) (u := .int _ _) (by assumption) (by array_get_dec) (by assumption) (by with_unfolding_all exact ⟨_, rfl⟩) (by with_unfolding_all rfl) ?_)
  | (refine we_one ?_) | (refine we_eqI ?_) | (refine we_not ?_) | (refine we_and ?_) | (refine we_or ?_)
  | (refine wt_val ?_ (by with_unfolding_all exact fun _ => rfl))
  | (refine WL.we (wl_lst ?_)) | (refine WL.we (wl_slice ?_)) | (refine wl_lst ?_) | (refine wl_slice ?_) | (refine wl_cat ?_)
  | (refine wo_none ?_) | (refine wo_some ?_) | (refine we_tup ?_)
  | (refine wss_nil ?_)
  | (refine ws_ret ?_)
  | (refine ws_if ?_)
  | (refine WW.wt (ww_and ?_)) | (refine WW.wt (ww_or ?_))
  | (refine wt_not ?_)
  | (refine ww_and ?_) | (refine ww_or ?_) | (refine ww_and1 ?_) | (refine ww_or1 ?_)
  | (refine dl_set (by assumption) (by array_get_dec) (by array_get_dec) (by with_unfolding_all rfl) ?_)
  | (refine dl_setIx (by assumption) (by array_get_dec) (by array_get_dec) (by with_unfolding_all rfl) (by with_unfolding_all exact fun _ => rfl) (by with_unfolding_all rfl) (by with_unfolding_all rfl) (by with_unfolding_all rfl) ?_)
  | (refine ite_t ?_) | (refine ite_f ?_)
  | (refine ⟨(by simp : List.length _ ≤ 1000000), ?_⟩)
  | (with_unfolding_all refine ⟨_, rfl, ?_⟩))
/-! ### rows of which one item is put in -/
theorem at_all {ds : List D} {r : Int} {Q : D → Prop} (h0 : 0 ≤ r) (h1 : r < ds.length) (h : ∀ d ∈ ds, Q d) : ∃ d, atI ds r = some d ∧ Q d := by
  obtain ⟨j, rfl⟩ := Int.eq_ofNat_of_zero_le h0
  have hj : j < ds.length := by omega
  exact ⟨ds[j], atI_nat (List.getElem?_eq_getElem hj), h _ (List.getElem_mem hj)⟩
theorem cut_pre {xs : List D} {j : Nat} (h : j ≤ xs.length) : cut xs none (some (j : Int)) = xs.take j := by
  unfold cut
  rw [HT.sIx_none, HT.sIx_nat, Nat.min_eq_left h]
  rfl
theorem cut_post {xs : List D} {j : Nat} (h : j ≤ xs.length) : cut xs (some (j : Int)) none = xs.drop j := by
  unfold cut
  rw [HT.sIx_none, HT.sIx_nat, Nat.min_eq_left h]
  exact List.take_of_length_le (by rw [List.length_drop]; omega)
/-- an item in another's place -/
def putAt (ds : List D) (j : Nat) (q : D) : List D := ds.take j ++ [q] ++ ds.drop (j + 1)
theorem put_len {ds : List D} {j : Nat} {q : D} (h : j < ds.length) : (putAt ds j q).length = ds.length := by
  unfold putAt
  simp only [List.length_append, List.length_take, List.length_drop, List.length_cons, List.length_nil]
  omega
theorem put_mem {ds : List D} {j : Nat} {q : D} : q ∈ putAt ds j q := by unfold putAt; simp
theorem mem_put {ds : List D} {j : Nat} {q x : D} (h : x ∈ putAt ds j q) : x = q ∨ x ∈ ds := by
  unfold putAt at h
  rw [List.mem_append, List.mem_append] at h
  rcases h with (h | h) | h
  · exact .inr (List.mem_of_mem_take h)
  · exact .inl (by simpa using h)
  · exact .inr (List.mem_of_mem_drop h)
theorem put_cut {ds : List D} {j : Nat} {q : D} (h : j < ds.length) : cut ds none (some (j : Int)) ++ [q] ++ cut ds (some ((j : Int) + 1)) none = putAt ds j q := by
  rw [cut_pre (Nat.le_of_lt h), show ((j : Int) + 1) = ((j + 1 : Nat) : Int) from rfl, cut_post h]
  rfl
theorem lst_bad {ds : List D} {q : D} {f m h : Int} (hq : q ∈ ds) (hb : betw q 0 h = false) : lstOf (.lst ds) f m h = false := by
  show ((decide (f ≤ ds.length) && decide ((ds.length : Int) ≤ m)) && ds.all (betw · 0 h)) = false
  rw [List.all_eq_false.mpr ⟨q, hq, by rw [hb]; exact fun z => nomatch z⟩, Bool.and_false]
theorem plain_int (z : Int) : (D.int z).plain := ⟨_, rfl⟩
theorem flat_ints {ps : List Int} (h : ps.length ≤ 1000000) : flatP (.lst (ps.map .int)) := ⟨⟨_, rfl⟩, fun ds e => by
  cases e
  refine ⟨by simpa using h, fun e he => ?_⟩
  obtain ⟨z, _, rfl⟩ := List.mem_map.mp he
  exact plain_int z⟩
theorem flat_of {d : D} (h : d.plain) (hn : d.isLst = false) : flatP d := ⟨h, fun ds e => by subst e; cases hn⟩
theorem flat_lst {ds : List D} (h : ds.length ≤ 1000000) (ha : ∀ e ∈ ds, e.plain) : flatP (.lst ds) := ⟨⟨_, rfl⟩, fun es e => by cases e; exact ⟨h, ha⟩⟩
section
variable {P : Program} {w : World} {K : PySem.W.Frag} {mg : Str → Option Value} {base : Heap} {f : Addr} {fd : FuncData}
theorem draw_le {n : Int} (h : n ≤ 100) : n < 2 ^ 4000 := Int.lt_of_le_of_lt h (by decide +kernel)
end
end My
set_option Elab.async false
set_option linter.all false
set_option maxRecDepth 100000
set_option autoImplicit false
set_option pp.deepTerms false
set_option pp.deepTerms.threshold 7
set_option pp.maxSteps 1500
set_option maxHeartbeats 1600000
namespace My
open PySem L2 DL
/-- a place in a list of names -/
local macro_rules | `(tactic| array_get_dec) => `(tactic| repeat (first | exact At.z | apply At.s))
/-- one step -/
local macro_rules | `(tactic| decreasing_trivial_pre_omega) => `(tactic| with_reducible first
  | (refine we_int ?_)
  | (refine we_bl ?_)
  | (refine we_non ?_)
  | (refine we_str ?_)
  | (refine dl_name (by assumption) (by array_get_dec) (by array_get_dec) (by with_unfolding_all rfl) ?_)
  | (refine dl_ixOwn (by assumption) (by array_get_dec) (by array_get_dec) (by with_unfolding_all rfl) (by with_unfolding_all exact fun _ _ => rfl) ?_)
  | (refine we_ix (by with_unfolding_all exact fun _ _ => rfl) ?_)
  | (refine we_add ?_)
  | (refine we_sub ?_)
  | (refine WL.we (wl_rep (a := .List _ _) ?_)) | (refine wl_rep (a := .List _ _) ?_)
  | (refine we_muls ?_)
  | (refine we_neg ?_)
  | (refine we_mod ?_)
  | (refine we_fdiv ?_)
  | (refine we_pow ?_)
  | (refine we_lt ?_) | (refine we_le ?_) | (refine we_gt ?_) | (refine we_ge ?_)
  | (refine we_lele (by with_unfolding_all rfl) ?_) | (refine wt_lele (by with_unfolding_all rfl) ?_)
  | (refine wt_lt ?_) | (refine wt_le ?_) | (refine wt_gt ?_) | (refine wt_ge ?_) | (refine wt_eqI ?_)
  | (refine wt_neI ?_) | (refine wt_isN ?_) | (refine wt_notN ?_) | (refine we_isN ?_) | (refine we_notN ?_)
  | (refine wa_nil ?_)
  | (refine wa_cons ?_ (by with_unfolding_all rfl))
  | (refine dl_len (by assumption) (by assumption) (by array_get_dec) (by array_get_dec) (by with_unfolding_all rfl) ?_)
  | (refine dl_abs (by assumption) (by assumption) (by array_get_dec) (by array_get_dec) (by with_unfolding_all rfl) ?_)
  | (refine dl_int (by assumption) (by assumption) (by array_get_dec) (by array_get_dec) (by with_unfolding_all rfl) ?_)
  | (refine dl_min (by assumption) (by assumption) (by array_get_dec) (by array_get_dec) (by with_unfolding_all rfl) (by with_unfolding_all rfl) ?_)
  | (refine dl_max (by assumption) (by assumption) (by array_get_dec) (by array_get_dec) (by with_unfolding_all rfl) (by with_unfolding_all rfl) ?_)
  | (refine dl_isi (by assumption) (by assumption) (by array_get_dec) (by array_get_dec) (by with_unfolding_all rfl) (by with_unfolding_all rfl) ?_)
  | (refine dl_all (by assumption) (by assumption) (by array_get_dec) (by array_get_dec) (by with_unfolding_all rfl) ?_)
  | (refine dl_list (by assumption) (by assumption) (by array_get_dec) (by array_get_dec) (by with_unfolding_all rfl) ?_)
  | (refine dl_tuple (by assumption) (by assumption) (by array_get_dec) (by array_get_dec) (by with_unfolding_all rfl) ?_)
  | (refine dl_ty (by assumption) (by assumption) boot_int (by array_get_dec) (by array_get_dec) ?_)
  | (refine dl_ty (by assumption) (by assumption) boot_bool (by array_get_dec) (by array_get_dec) ?_)
  | (refine dl_ty (by assumption) (by assumption) boot_list (by array_get_dec) (by array_get_dec) ?_)
  | (refine dl_pure (by assumption) (by assumption) (by array_get_dec) (by decide) (by with_unfolding_all rfl) (by with_unfolding_all rfl) ?_)
  | (refine dl_bag (by assumption) (by assumption) (by array_get_dec) (by decide) (by with_unfolding_all rfl) (by with_unfolding_all rfl) ?_)
  | (refine dl_glob (d := .int _) (v := .int _) (u := .int _ _) (by assumption) (by array_get_dec) (by assumption) (by with_unfolding_all exact ⟨_, rfl⟩) (by with_unfolding_all rfl) ?_)
  | (refine we_one ?_) | (refine we_eqI ?_) | (refine we_not ?_) | (refine we_and ?_) | (refine we_or ?_)
  | (refine wt_val ?_ (by with_unfolding_all exact fun _ => rfl))
  | (refine WL.we (wl_lst ?_)) | (refine WL.we (wl_slice ?_)) | (refine wl_lst ?_) | (refine wl_slice ?_) | (refine wl_cat ?_)
  | (refine wo_none ?_) | (refine wo_some ?_) | (refine we_tup ?_)
  | (refine wss_nil ?_)
  | (refine ws_ret ?_)
  | (refine ws_if ?_)
  | (refine WW.wt (ww_and ?_)) | (refine WW.wt (ww_or ?_))
  | (refine wt_not ?_)
  | (refine ww_and ?_) | (refine ww_or ?_) | (refine ww_and1 ?_) | (refine ww_or1 ?_)
  | (refine dl_set (by assumption) (by array_get_dec) (by array_get_dec) (by with_unfolding_all rfl) ?_)
  | (refine dl_setIx (by assumption) (by array_get_dec) (by array_get_dec) (by with_unfolding_all rfl) (by with_unfolding_all exact fun _ => rfl) (by with_unfolding_all rfl) (by with_unfolding_all rfl) (by with_unfolding_all rfl) ?_)
  | (refine ite_t ?_) | (refine ite_f ?_)
  | (refine ⟨(by simp : List.length _ ≤ 1000000), ?_⟩)
  | (with_unfolding_all refine ⟨_, rfl, ?_⟩))
/-! ### a drawn scale -/
theorem ints_of {p : Int → Prop} : ∀ {es : List D}, (∀ (i : Nat) (e : D), es[i]? = some e → ∃ z, e = .int z ∧ p z) → ∃ zs : List Int, es = zs.map D.int ∧ ∀ z ∈ zs, p z
  | [], _ => ⟨[], rfl, fun z h => nomatch h⟩
  | e :: es, h => by
    obtain ⟨z, rfl, hz⟩ := h 0 e rfl
    obtain ⟨zs, rfl, hzs⟩ := ints_of fun i e he => h (i + 1) e he
    exact ⟨z :: zs, rfl, fun y hy => by rcases List.mem_cons.mp hy with rfl | hy; exact hz; exact hzs y hy⟩
/-- a row of the table: so many classes -/
def RowOk (n w : Nat) (x : D) : Prop := ∃ zs : List Int, x = .lst (zs.map .int) ∧ zs.length = w ∧ ∀ z ∈ zs, 0 ≤ z ∧ z < n
def GoodS (m : Int) (p t : D) : Prop := ∃ (ps : List Int) (ts : List D) (w : Nat), p = .lst (ps.map .int) ∧ t = .lst ts ∧ 1 ≤ ps.length ∧ ps.length ≤ 12 ∧ 1 ≤ w ∧ w ≤ 5 ∧ (ps.length : Int) ≤ m ∧ (∀ z ∈ ps, 0 ≤ z ∧ z ≤ 1000000) ∧ ts.length = ps.length ∧ ∀ x ∈ ts, RowOk ps.length w x
def A_lsc (ds : List D) (P : D → Prop) : Prop := ∃ m w : Int, ds = [.int m, .int w] ∧ (1 ≤ m ∧ m ≤ 12) ∧ (1 ≤ w ∧ w ≤ 5) ∧ ∀ p t, GoodS m p t → P (.tup [p, t])
section
variable {P : Program} {w : World} {K : PySem.W.Frag} {mg : Str → Option Value} {base : Heap} {f : Addr} {fd : FuncData}
theorem ok_lsc (F : Fun K "_law_scale" "_law_scale" s_l_scale f fd) (bn : NoMg mg BI) (f1 : FnAt P w K mg base "_law_draw" 1 P_l_draw (spB K 2 A_draw)) : FnOk P w K mg base (L2.CX P w) 2 f fd P_l_scale (spB K 3 A_lsc) := by
  refine Fun.okB2 (Vn := V_l_scale) (L := L_l_scale) (G := G_l_scale) F sc_l_scale v_l_scale l_l_scale g_l_scale fun X b ds Q dx hl hA => ?_
  obtain ⟨m, wd, rfl, ⟨hm0, hm1⟩, ⟨hw0, hw1⟩, hq⟩ := hA
  refine wss_cons ?_
  repeat decreasing_trivial_pre_omega
  refine ⟨rfl, _, rfl, _, rfl, hm0, draw_le (by omega), fun n hn0 hn1 => ?_⟩
  repeat decreasing_trivial_pre_omega
  obtain ⟨n', rfl⟩ := Int.eq_ofNat_of_zero_le hn0
  refine wss_cons ?_
  repeat decreasing_trivial_pre_omega
  refine ⟨rfl, _, rfl, _, rfl, hw0, draw_le (by omega), fun v hv0 hv1 => ?_⟩
  repeat decreasing_trivial_pre_omega
  obtain ⟨v', rfl⟩ := Int.eq_ofNat_of_zero_le hv0
  refine wss_cons ?_
  repeat decreasing_trivial_pre_omega
  refine ⟨rfl, _, rfl, 3, rfl, by decide, draw_le (by decide), fun r hr0 hr1 => ?_⟩
  repeat decreasing_trivial_pre_omega
  refine at_all hr0 hr1 fun sz hsz => ?_
  obtain ⟨sz, rfl, hz0, hz1⟩ : ∃ z : Int, sz = .int z ∧ 1 ≤ z ∧ z ≤ 1000001 := by
    simp only [List.mem_cons, List.not_mem_nil, or_false] at hsz
    rcases hsz with rfl | rfl | rfl
    · exact ⟨_, rfl, by decide, by decide⟩
    · exact ⟨_, rfl, by decide, by decide⟩
    · exact ⟨_, rfl, by decide, by decide⟩
  have hc : ((1 : Int) + (n' : Int)) = ((n' + 1 : Nat) : Int) := by omega
  have hv : ((1 : Int) + (v' : Int)) = ((v' + 1 : Nat) : Int) := by omega
  rw [hc, hv]
  generalize hgc : n' + 1 = c at hc ⊢
  generalize hgw : v' + 1 = u at hv ⊢
  refine wss_cons ?_
  refine dl_setCompR 8 own_l_scale_0 Vc_l_scale_0 Gc_l_scale_0 (by assumption) (by assumption) (by array_get_dec) rfl rfl rfl rfl (by decide +kernel) rfl (by array_get_dec) (by decide +kernel) (by decide +kernel) (by decide +kernel) (by array_get_dec) (by array_get_dec) (by with_unfolding_all rfl) (by with_unfolding_all exact fun _ => rfl) ?_
  repeat decreasing_trivial_pre_omega
  refine ⟨⟨by omega, by omega⟩, fun i e => ∃ z : Int, e = .int z ∧ (0 ≤ z ∧ z ≤ 1000000), fun i hi X' dx' hK => ?_, fun es hes hE => ?_⟩
  · repeat decreasing_trivial_pre_omega
    exact ⟨rfl, _, rfl, _, rfl, hz0, Int.lt_of_le_of_lt hz1 (by decide +kernel), fun r h0 h1 => ⟨r, rfl, h0, by omega⟩⟩
  obtain ⟨ps, rfl, hps⟩ := ints_of hE
  rw [List.length_map] at hes
  refine wss_cons ?_
  refine dl_setL (by assumption) (by array_get_dec) (by array_get_dec) (by with_unfolding_all rfl) ?_
  repeat decreasing_trivial_pre_omega
  intro tp
  refine wss_cut (fun ev => ∃ (o8 o9 : Option Slot) (ts : List D), ev = [some (.frz (.ref b)), some (.frz (.int m)), some (.frz (.int wd)), some (.frz (.int c)), some (.frz (.int u)), some (.frz (.int sz)), some (.frz (.lst (ps.map .int))), some (.own tp (.lst ts)), o8, o9, none, none] ∧ ts.length = c ∧ ∀ x ∈ ts, RowOk c u x) ?_ ?_
  · refine dl_forR 8 (by assumption) (by assumption) (by array_get_dec) (by array_get_dec) (by array_get_dec) (by array_get_dec) (by with_unfolding_all rfl) (by with_unfolding_all exact fun _ => rfl) ?_
    repeat decreasing_trivial_pre_omega
    refine ⟨⟨by omega, by omega⟩, fun i ev => ∃ (o8 o9 : Option Slot) (ts : List D), ev = [some (.frz (.ref b)), some (.frz (.int m)), some (.frz (.int wd)), some (.frz (.int c)), some (.frz (.int u)), some (.frz (.int sz)), some (.frz (.lst (ps.map .int))), some (.own tp (.lst ts)), o8, o9, none, none] ∧ ts.length = i ∧ ∀ x ∈ ts, RowOk c u x, ⟨none, none, [], rfl, rfl, fun x h => nomatch h⟩, ?_, fun ev h => h⟩
    rintro i ev hi ⟨o8, o9, ts, rfl, hts, hrow⟩
    refine wss_cons ?_
    refine dl_setCompR 10 own_l_scale_1 Vc_l_scale_1 Gc_l_scale_1 (by assumption) (by assumption) (by array_get_dec) rfl rfl rfl rfl (by decide +kernel) rfl (by array_get_dec) (by decide +kernel) (by decide +kernel) (by decide +kernel) (by array_get_dec) (by array_get_dec) (by with_unfolding_all rfl) (by with_unfolding_all exact fun _ => rfl) ?_
    repeat decreasing_trivial_pre_omega
    refine ⟨⟨by omega, by omega⟩, fun i e => ∃ z : Int, e = .int z ∧ (0 ≤ z ∧ z < c), fun i hi X' dx' hK => ?_, fun es hes hE => ?_⟩
    · repeat decreasing_trivial_pre_omega
      exact ⟨rfl, _, rfl, _, rfl, by omega, draw_le (by omega), fun r h0 h1 => ⟨r, rfl, h0, by omega⟩⟩
    obtain ⟨zs, rfl, hzs⟩ := ints_of hE
    rw [List.length_map] at hes
    refine wss_cut (fun ev => ∃ (o8 : Option Slot) (r : D), ev = [some (.frz (.ref b)), some (.frz (.int m)), some (.frz (.int wd)), some (.frz (.int c)), some (.frz (.int u)), some (.frz (.int sz)), some (.frz (.lst (ps.map .int))), some (.own tp (.lst ts)), o8, some (.frz r), none, none] ∧ RowOk c u r) ?_ ?_
    · repeat decreasing_trivial_pre_omega
      refine ⟨rfl, _, rfl, 3, rfl, by decide, draw_le (by decide), fun r hr0 hr1 => ?_⟩
      repeat decreasing_trivial_pre_omega
      refine ite_d (fun h => ?_) (fun h => ?_)
      · refine wss_cons ?_
        refine dl_set (by assumption) (by array_get_dec) (by array_get_dec) (by with_unfolding_all rfl) ?_
        refine WL.we (wl_cat ?_)
        repeat decreasing_trivial_pre_omega
        refine WL.we ?_
        refine dl_compR2 10 own_l_scale_2 Vc_l_scale_2 Gc_l_scale_2 (by assumption) (by assumption) (by decide +kernel) rfl (by array_get_dec) (by decide +kernel) (by decide +kernel) (by decide +kernel) (by array_get_dec) (by array_get_dec) (by with_unfolding_all rfl) (by with_unfolding_all rfl) (by with_unfolding_all exact fun _ => rfl) ?_
        repeat decreasing_trivial_pre_omega
        refine ⟨⟨by omega, by omega, by omega, by omega, by omega⟩, fun i e => ∃ z : Int, e = .int z ∧ (0 ≤ z ∧ z < c), fun j hj X' dx' hK => ?_, fun es hes hE => ?_⟩
        · repeat decreasing_trivial_pre_omega
          exact ⟨by omega, by omega⟩
        · obtain ⟨ys, rfl, hys⟩ := ints_of hE
          rw [List.length_map] at hes
          refine ⟨by rw [List.length_map, hes]; show 1 + _ ≤ _; omega, ?_⟩
          repeat decreasing_trivial_pre_omega
          refine ⟨_, _, rfl, max ((i : Int) - 1) 0 :: ys, rfl, by rw [List.length_cons, hes]; omega, fun z hz => ?_⟩
          rcases List.mem_cons.mp hz with rfl | hz
          · exact ⟨by omega, by omega⟩
          · exact hys z hz
      · repeat decreasing_trivial_pre_omega
        exact ⟨_, _, rfl, zs, rfl, by omega, hzs⟩
    · rintro ev ⟨o8, r, rfl, hr⟩
      refine wss_cons ?_
      refine dl_append (by assumption) (by array_get_dec) (by array_get_dec) (by with_unfolding_all rfl) (by with_unfolding_all exact fun h1 h2 => pe_bm PySem.F.plainAttrs_list PySem.F.slot_list_append PySem.F.type_list_append mt_append h1 h2) (by with_unfolding_all rfl) (by with_unfolding_all rfl) (by omega) ?_
      repeat decreasing_trivial_pre_omega
      refine ⟨_, _, ts ++ [r], rfl, by rw [List.length_append, hts]; rfl, fun x hx => ?_⟩
      rcases List.mem_append.mp hx with hx | hx
      · exact hrow x hx
      · rw [List.mem_singleton.mp hx]; exact hr
  · rintro ev ⟨o8, o9, ts, rfl, hts, hrow⟩
    refine wss_freeze 7 rfl ?_
    refine wss_cut (fun ev => ∃ (o8 o9 : Option Slot) (qs : List Int), ev = [some (.frz (.ref b)), some (.frz (.int m)), some (.frz (.int wd)), some (.frz (.int c)), some (.frz (.int u)), some (.frz (.int sz)), some (.frz (.lst (qs.map .int))), some (.frz (.lst ts)), o8, o9, none, none] ∧ qs.length = c ∧ ∀ z ∈ qs, 0 ≤ z ∧ z ≤ 1000000) ?_ ?_
    · repeat decreasing_trivial_pre_omega
      refine ⟨rfl, _, rfl, 3, rfl, by decide, draw_le (by decide), fun r hr0 hr1 => ?_⟩
      repeat decreasing_trivial_pre_omega
      refine ite_d (fun h => ?_) (fun h => ?_)
      · refine wss_cons ?_
        refine dl_setComp 11 own_l_scale_3 Vc_l_scale_3 Gc_l_scale_3 (by assumption) (by array_get_dec) rfl rfl rfl rfl (by decide +kernel) rfl (by array_get_dec) (by decide +kernel) (by decide +kernel) (by decide +kernel) (by with_unfolding_all exact fun _ => rfl) ?_
        refine WL.we (dl_sorted (by assumption) (by assumption) (by array_get_dec) (by array_get_dec) (by with_unfolding_all rfl) ?_)
        repeat decreasing_trivial_pre_omega
        intro ms hp hsrt
        have hl2 := hp.length_eq
        refine ⟨by rw [List.length_map]; omega, fun i e => ∃ z : Int, e = .int z ∧ (0 ≤ z ∧ z ≤ 1000000), fun i d hi X' dx' hK => ?_, fun es hes hE => ?_⟩
        · obtain ⟨z, hz, rfl⟩ := List.mem_map.mp (List.mem_of_getElem? hi)
          repeat decreasing_trivial_pre_omega
          exact hps z (hp.mem_iff.mp hz)
        · obtain ⟨qs, rfl, hqs⟩ := ints_of hE
          rw [List.length_map, List.length_map] at hes
          repeat decreasing_trivial_pre_omega
          exact ⟨_, _, qs, rfl, by omega, hqs⟩
      · repeat decreasing_trivial_pre_omega
        exact ⟨_, _, ps, rfl, by omega, hps⟩
    · rintro ev ⟨o8, o9, qs, rfl, hqs, hq2⟩
      refine wss_cons ?_
      repeat decreasing_trivial_pre_omega
      refine hq _ _ ⟨qs, ts, u, rfl, rfl, by omega, by omega, by omega, by omega, by omega, hq2, by omega, ?_⟩
      rw [hqs]
      exact hrow
end
end My
set_option Elab.async false
set_option linter.all false
set_option maxRecDepth 100000
set_option autoImplicit false
set_option pp.deepTerms false
set_option pp.deepTerms.threshold 7
set_option pp.maxSteps 1500
set_option maxHeartbeats 1600000
namespace My
open PySem L2 DL
/-- a place in a list of names -/
local macro_rules | `(tactic| array_get_dec) => `(tactic| repeat (first | exact At.z | apply At.s))
/-- one step -/
local macro_rules | `(tactic| decreasing_trivial_pre_omega) => `(tactic| with_reducible first
  | (refine we_int ?_)
  | (refine we_bl ?_)
  | (refine we_non ?_)
  | (refine we_str ?_)
  | (refine dl_name (by assumption) (by array_get_dec) (by array_get_dec) (by with_unfolding_all rfl) ?_)
  | (refine dl_ixOwn (by assumption) (by array_get_dec) (by array_get_dec) (by with_unfolding_all rfl) (by with_unfolding_all exact fun _ _ => rfl) ?_)
  | (refine we_ix (by with_unfolding_all exact fun _ _ => rfl) ?_)
  | (refine WL.we (wl_cat (b := .List _ _) ?_))
  | (refine we_add ?_)
  | (refine we_sub ?_)
  | (refine WL.we (wl_rep (a := .List _ _) ?_)) | (refine wl_rep (a := .List _ _) ?_)
  | (refine we_muls ?_)
  | (refine we_neg ?_)
  | (refine we_mod ?_)
  | (refine we_fdiv ?_)
  | (refine we_pow ?_)
  | (refine we_lt ?_) | (refine we_le ?_) | (refine we_gt ?_) | (refine we_ge ?_)
  | (refine we_lele (by with_unfolding_all rfl) ?_) | (refine wt_lele (by with_unfolding_all rfl) ?_)
  | (refine wt_lt ?_) | (refine wt_le ?_) | (refine wt_gt ?_) | (refine wt_ge ?_) | (refine wt_eqI ?_)
  | (refine wt_neI ?_) | (refine wt_isN ?_) | (refine wt_notN ?_) | (refine we_isN ?_) | (refine we_notN ?_)
  | (refine wa_nil ?_)
  | (refine wa_cons ?_ (by with_unfolding_all rfl))
  | (refine dl_len (by assumption) (by assumption) (by array_get_dec) (by array_get_dec) (by with_unfolding_all rfl) ?_)
  | (refine dl_abs (by assumption) (by assumption) (by array_get_dec) (by array_get_dec) (by with_unfolding_all rfl) ?_)
  | (refine dl_int (by assumption) (by assumption) (by array_get_dec) (by array_get_dec) (by with_unfolding_all rfl) ?_)
  | (refine dl_min (by assumption) (by assumption) (by array_get_dec) (by array_get_dec) (by with_unfolding_all rfl) (by with_unfolding_all rfl) ?_)
  | (refine dl_max (by assumption) (by assumption) (by array_get_dec) (by array_get_dec) (by with_unfolding_all rfl) (by with_unfolding_all rfl) ?_)
  | (refine dl_isi (by assumption) (by assumption) (by array_get_dec) (by array_get_dec) (by with_unfolding_all rfl) (by with_unfolding_all rfl) ?_)
  | (refine dl_all (by assumption) (by assumption) (by array_get_dec) (by array_get_dec) (by with_unfolding_all rfl) ?_)
  | (refine dl_list (by assumption) (by assumption) (by array_get_dec) (by array_get_dec) (by with_unfolding_all rfl) ?_)
  | (refine dl_tuple (by assumption) (by assumption) (by array_get_dec) (by array_get_dec) (by with_unfolding_all rfl) ?_)
  | (refine dl_ty (by assumption) (by assumption) boot_int (by array_get_dec) (by array_get_dec) ?_)
  | (refine dl_ty (by assumption) (by assumption) boot_bool (by array_get_dec) (by array_get_dec) ?_)
  | (refine dl_ty (by assumption) (by assumption) boot_list (by array_get_dec) (by array_get_dec) ?_)
  | (refine dl_pure (by assumption) (by assumption) (by array_get_dec) (by decide) (by with_unfolding_all rfl) (by with_unfolding_all rfl) ?_)
  | (refine dl_bag (by assumption) (by assumption) (by array_get_dec) (by decide) (by with_unfolding_all rfl) (by with_unfolding_all rfl) ?_)
  | (refine dl_glob (d := .int _) (v := .int _) (u := .int _ _) (by assumption) (by array_get_dec) (by assumption) (by with_unfolding_all exact ⟨_, rfl⟩) (by with_unfolding_all rfl) ?_)
  | (refine we_one ?_) | (refine we_eqI ?_) | (refine we_not ?_) | (refine we_and ?_) | (refine we_or ?_)
  | (refine wt_val ?_ (by with_unfolding_all exact fun _ => rfl))
  | (refine WL.we (wl_lst ?_)) | (refine WL.we (wl_slice ?_)) | (refine wl_lst ?_) | (refine wl_slice ?_) | (refine wl_cat ?_)
  | (refine wo_none ?_) | (refine wo_some ?_) | (refine we_tup ?_)
  | (refine wss_nil ?_)
  | (refine ws_ret ?_)
  | (refine ws_if ?_)
  | (refine WW.wt (ww_and ?_)) | (refine WW.wt (ww_or ?_))
  | (refine wt_not ?_)
  | (refine ww_and ?_) | (refine ww_or ?_) | (refine ww_and1 ?_) | (refine ww_or1 ?_)
  | (refine dl_set (by assumption) (by array_get_dec) (by array_get_dec) (by with_unfolding_all rfl) ?_)
  | (refine dl_setIx (by assumption) (by array_get_dec) (by array_get_dec) (by with_unfolding_all rfl) (by with_unfolding_all exact fun _ => rfl) (by with_unfolding_all rfl) (by with_unfolding_all rfl) (by with_unfolding_all rfl) ?_)
  | (refine ite_t ?_) | (refine ite_f ?_)
  | (refine ⟨(by simp : List.length _ ≤ 1000000), ?_⟩)
  | (with_unfolding_all refine ⟨_, rfl, ?_⟩))
/-! ### the package's scale, of lists that are only lent -/
theorem all_betw : ∀ {ds : List D} {h : Int}, ds.all (betw · 0 h) = true → ∃ zs : List Int, ds = zs.map D.int ∧ ∀ z ∈ zs, 0 ≤ z ∧ z ≤ h
  | [], h, _ => ⟨[], rfl, fun z hz => nomatch hz⟩
  | d :: ds, h, e => by
    rw [List.all_cons, Bool.and_eq_true] at e
    obtain ⟨zs, rfl, hz⟩ := all_betw e.2
    cases d <;> first | cases e.1 | skip
    rename_i z
    have e1 : (decide (0 ≤ z) && decide (z ≤ h)) = true := e.1
    rw [Bool.and_eq_true, decide_eq_true_eq, decide_eq_true_eq] at e1
    exact ⟨z :: zs, rfl, fun y hy => by rcases List.mem_cons.mp hy with rfl | hy; exact e1; exact hz y hy⟩
theorem lst_ints {p : D} {f m h : Int} (e : lstOf p f m h = true) : ∃ zs : List Int, p = .lst (zs.map D.int) ∧ f ≤ zs.length ∧ (zs.length : Int) ≤ m ∧ ∀ z ∈ zs, 0 ≤ z ∧ z ≤ h := by
  cases p <;> first | cases e | skip
  rename_i ds
  have e1 : ((decide (f ≤ ds.length) && decide ((ds.length : Int) ≤ m)) && ds.all (betw · 0 h)) = true := e
  rw [Bool.and_eq_true, Bool.and_eq_true, decide_eq_true_eq, decide_eq_true_eq] at e1
  obtain ⟨zs, rfl, hz⟩ := all_betw e1.2
  rw [List.length_map] at e1
  exact ⟨zs, rfl, e1.1.1, e1.1.2, hz⟩
def A_scaleG (ds : List D) (P : List (Str × D) → Prop) (PX : Addr → List (Str × D) → Prop) : Prop := ∃ (ps : List Int) (t : D), ds = [.lst (ps.map .int), t] ∧ lstOf (.lst (ps.map .int)) 1 12 1000000 = true ∧ deepP t ∧ tabOf t ps.length = true ∧ P [("prices", .lst (ps.map .int)), ("moves", t)]
section
variable {P : Program} {w : World} {K : PySem.W.Frag} {mg : Str → Option Value} {base : Heap} {f : Addr} {fd : FuncData}
theorem ok_scaleL {C BP : Addr} (F : Fun K "__init__" "Scale.__init__" s_Scale_init f fd) (bn : NoMg mg BI) (f1 : FnAt P w K mg base "check_premiums" 4 P_p_check_premiums (spX K 1 (A_chkP BP))) (f2 : FnAt P w K mg base "is_table" 4 P_p_is_table (spD K none 2 A_tab))
    (hC : Cls K C) (n1 : NoAttr K C "prices") (n2 : NoAttr K C "moves") : FnOk P w K mg base (L2.CX P w) 5 f fd P_Scale_init (spIXL K C [true, true] A_scaleG) := by
  refine Fun.okInitXL (Vn := V_Scale_init) (L := L_Scale_init) (G := G_Scale_init) F sc_Scale_init rfl v_Scale_init l_Scale_init g_Scale_init fun X q0 ds Q QX dx hl hA => ?_
  obtain ⟨ps, t, rfl, hp, ht, h2, q⟩ := hA
  have hpl : ps.length ≤ 12 := by
    obtain ⟨zs, e, _, h, _⟩ := lst_ints hp
    have := congrArg List.length (D.lst.inj e)
    rw [List.length_map, List.length_map] at this
    omega
  have hfp : flatP (.lst (ps.map .int)) := flat_ints (by omega)
  refine wss_cons ?_
  refine dl_exprF (bs := [true]) dx f1 (by array_get_dec) (by decide) rfl rfl rfl (dal_lent dx (by array_get_dec) (by array_get_dec) rfl rfl (wal_nil ?_))
  refine ⟨rfl, _, rfl, hfp, fun _ => ?_, fun h => ?_⟩
  · refine wss_cons ?_
    refine ws_if (wt_lent 1 rfl (wt_lent 2 rfl ?_))
    repeat decreasing_trivial_pre_omega
    refine ⟨rfl, t, _, rfl, ht, ?_⟩
    rw [List.length_map, h2]
    refine ite_f ?_
    repeat decreasing_trivial_pre_omega
    refine wss_cons ?_
    refine dl_setFld dx (by array_get_dec) (by array_get_dec) rfl rfl hC n1 (by decide) (WL.we (WL.mono (P := fun es => es = ps.map .int) (wl_lent 1 rfl (fun es h => by rw [h]; exact flats_ints) ?_) ?_))
    · repeat decreasing_trivial_pre_omega
      rfl
    rintro es rfl
    refine wss_cons ?_
    obtain ⟨ts, rfl, hall⟩ : ∃ ts, t = .lst ts ∧ ∀ e ∈ ts, lstOf e 1 5 (ps.length - 1) = true := by
      cases t <;> first | cases h2 | skip
      rename_i ts
      unfold tabOf at h2
      rw [Bool.and_eq_true, Bool.and_eq_true] at h2
      exact ⟨ts, rfl, List.all_eq_true.mp h2.2.1⟩
    refine dl_setFld dx (by array_get_dec) (by array_get_dec) rfl rfl hC n2 (by with_unfolding_all exact (by decide : 1 < 1000)) (we_ofR (WR.mono (P := fun d => d.er = .lst ts ∧ Lf d) (wr_lent 2 rfl (fun d h => h.2) ?_) ?_))
    · refine dl_wcomp 3 own_Scale_init_0 Vc_Scale_init_0 Gc_Scale_init_0 (by assumption) (by decide +kernel) rfl (by array_get_dec) (by decide +kernel) (by decide +kernel) (by decide +kernel) (by with_unfolding_all exact fun _ => rfl) ?_
      repeat decreasing_trivial_pre_omega
      refine ⟨(ht.2 ts rfl).1, fun i e => ∃ (q : Addr) (zs : List Int), ts[i]? = some (.lst (zs.map .int)) ∧ e = .own q (zs.map .int), fun i d hi X' dx' hK => ?_, fun es hes hE p => ?_⟩
      · obtain ⟨zs, rfl, _⟩ := lst_ints (hall d (List.mem_of_getElem? hi))
        refine WL.wr ?_
        repeat decreasing_trivial_pre_omega
        exact fun p => ⟨p, zs, hi, rfl⟩
      · refine ⟨?_, .own fun x hx => ?_⟩
        · show D.lst (D.erAll es) = _
          refine congrArg D.lst (List.ext_getElem? fun i => ?_)
          rw [erAll_get]
          cases e : es[i]? with
          | none =>
            rw [List.getElem?_eq_none_iff] at e
            exact (List.getElem?_eq_none_iff.mpr (by omega)).symm
          | some d =>
            obtain ⟨q, zs, h1, rfl⟩ := hE i d e
            rw [h1]
            show some (D.lst (D.erAll _)) = _
            rw [(OwnAll.ofIs (K := K) (Fr := fun _ => True) (F := fun _ => none) (H := fun _ => none) (vs := zs.map V.int) (ds := zs.map D.int) (isAll_ints zs)).2.2]
        · obtain ⟨i, hi⟩ := List.getElem?_of_mem hx
          obtain ⟨q, zs, _, rfl⟩ := hE i x hi
          refine .own fun y hy => ?_
          obtain ⟨z, _, rfl⟩ := List.mem_map.mp hy
          exact .flat (w := .int z) rfl
    rintro d ⟨e, _⟩
    rw [e]
    refine wss_nil ?_
    exact ⟨_, rfl, q⟩
  · rw [hp] at h; cases h
end
end My
set_option Elab.async false
set_option linter.all false
set_option maxRecDepth 100000
set_option autoImplicit false
set_option pp.deepTerms false
set_option pp.deepTerms.threshold 7
set_option pp.maxSteps 1500
set_option maxHeartbeats 1600000
namespace My
open PySem L2 DL
/-- a place in a list of names -/
local macro_rules | `(tactic| array_get_dec) => `(tactic| repeat (first | exact At.z | apply At.s))
/-- one step -/
local macro_rules | `(tactic| decreasing_trivial_pre_omega) => `(tactic| with_reducible first
  | (refine we_int ?_)
  | (refine we_bl ?_)
  | (refine we_non ?_)
  | (refine we_str ?_)
  | (refine dl_name (by assumption) (by array_get_dec) (by array_get_dec) (by with_unfolding_all rfl) ?_)
  | (refine dl_ixOwn (by assumption) (by array_get_dec) (by array_get_dec) (by with_unfolding_all rfl) (by with_unfolding_all exact fun _ _ => rfl) ?_)
  | (refine we_ix (by with_unfolding_all exact fun _ _ => rfl) ?_)
  | (refine WL.we (wl_cat (b := .List _ _) ?_))
  | (refine we_add ?_)
  | (refine we_sub ?_)
  | (refine WL.we (wl_rep (a := .List _ _) ?_)) | (refine wl_rep (a := .List _ _) ?_)
  | (refine we_muls ?_)
  | (refine we_neg ?_)
  | (refine we_mod ?_)
  | (refine we_fdiv ?_)
  | (refine we_pow ?_)
  | (refine we_lt ?_) | (refine we_le ?_) | (refine we_gt ?_) | (refine we_ge ?_)
  | (refine we_lele (by with_unfolding_all rfl) ?_) | (refine wt_lele (by with_unfolding_all rfl) ?_)
  | (refine wt_lt ?_) | (refine wt_le ?_) | (refine wt_gt ?_) | (refine wt_ge ?_) | (refine wt_eqI ?_)
  | (refine wt_neI ?_) | (refine wt_isN ?_) | (refine wt_notN ?_) | (refine we_isN ?_) | (refine we_notN ?_)
  | (refine wa_nil ?_)
  | (refine wa_cons ?_ (by with_unfolding_all rfl))
  | (refine dl_len (by assumption) (by assumption) (by array_get_dec) (by array_get_dec) (by with_unfolding_all rfl) ?_)
  | (refine dl_abs (by assumption) (by assumption) (by array_get_dec) (by array_get_dec) (by with_unfolding_all rfl) ?_)
  | (refine dl_int (by assumption) (by assumption) (by array_get_dec) (by array_get_dec) (by with_unfolding_all rfl) ?_)
  | (refine dl_min (by assumption) (by assumption) (by array_get_dec) (by array_get_dec) (by with_unfolding_all rfl) (by with_unfolding_all rfl) ?_)
  | (refine dl_max (by assumption) (by assumption) (by array_get_dec) (by array_get_dec) (by with_unfolding_all rfl) (by with_unfolding_all rfl) ?_)
  | (refine dl_isi (by assumption) (by assumption) (by array_get_dec) (by array_get_dec) (by with_unfolding_all rfl) (by with_unfolding_all rfl) ?_)
  | (refine dl_all (by assumption) (by assumption) (by array_get_dec) (by array_get_dec) (by with_unfolding_all rfl) ?_)
  | (refine dl_list (by assumption) (by assumption) (by array_get_dec) (by array_get_dec) (by with_unfolding_all rfl) ?_)
  | (refine dl_tuple (by assumption) (by assumption) (by array_get_dec) (by array_get_dec) (by with_unfolding_all rfl) ?_)
  | (refine dl_ty (by assumption) (by assumption) boot_int (by array_get_dec) (by array_get_dec) ?_)
  | (refine dl_ty (by assumption) (by assumption) boot_bool (by array_get_dec) (by array_get_dec) ?_)
  | (refine dl_ty (by assumption) (by assumption) boot_list (by array_get_dec) (by array_get_dec) ?_)
  | (refine dl_pure (by assumption) (by assumption) (by array_get_dec) (by decide) (by with_unfolding_all rfl) (by with_unfolding_all rfl) ?_)
  | (refine dl_bag (by assumption) (by assumption) (by array_get_dec) (by decide) (by with_unfolding_all rfl) (by with_unfolding_all rfl) ?_)
  | (refine dl_glob (d := .int _) (v := .int _) (u := .int _ _) (by assumption) (by array_get_dec) (by assumption) (by with_unfolding_all exact ⟨_, rfl⟩) (by with_unfolding_all rfl) ?_)
  | (refine we_one ?_) | (refine we_eqI ?_) | (refine we_not ?_) | (refine we_and ?_) | (refine we_or ?_)
  | (refine wt_val ?_ (by with_unfolding_all exact fun _ => rfl))
  | (refine WL.we (wl_lst ?_)) | (refine WL.we (wl_slice ?_)) | (refine wl_lst ?_) | (refine wl_slice ?_) | (refine wl_cat ?_)
  | (refine wo_none ?_) | (refine wo_some ?_) | (refine we_tup ?_)
  | (refine wss_nil ?_)
  | (refine ws_ret ?_)
  | (refine ws_if ?_)
  | (refine WW.wt (ww_and ?_)) | (refine WW.wt (ww_or ?_))
  | (refine wt_not ?_)
  | (refine ww_and ?_) | (refine ww_or ?_) | (refine ww_and1 ?_) | (refine ww_or1 ?_)
  | (refine dl_set (by assumption) (by array_get_dec) (by array_get_dec) (by with_unfolding_all rfl) ?_)
  | (refine dl_setIx (by assumption) (by array_get_dec) (by array_get_dec) (by with_unfolding_all rfl) (by with_unfolding_all exact fun _ => rfl) (by with_unfolding_all rfl) (by with_unfolding_all rfl) (by with_unfolding_all rfl) ?_)
  | (refine ite_t ?_) | (refine ite_f ?_)
  | (refine ⟨(by simp : List.length _ ≤ 1000000), ?_⟩)
  | (with_unfolding_all refine ⟨_, rfl, ?_⟩))
theorem betw_int {z lo hi : Int} (h1 : lo ≤ z) (h2 : z ≤ hi) : betw (.int z) lo hi = true := by
  show (decide (lo ≤ z) && decide (z ≤ hi)) = true
  rw [decide_eq_true h1, decide_eq_true h2]; rfl
/-! ### scales as numbers -/
structure Sc where
  ps : List Int
  mv : List (List Nat)
def Sc.n (s : Sc) : Nat := s.ps.length
def Sc.w (s : Sc) : Nat := (s.mv.headD []).length
structure Sc.Ok (s : Sc) : Prop where
  n1 : 1 ≤ s.n
  n2 : s.n ≤ 12
  len : s.mv.length = s.n
  w1 : 1 ≤ s.w
  w2 : s.w ≤ 5
  row : ∀ r ∈ s.mv, r.length = s.w
  cls : ∀ r ∈ s.mv, ∀ z ∈ r, z < s.n
  pr : ∀ z ∈ s.ps, 0 ≤ z ∧ z ≤ 1000000
def natL (r : List Nat) : List D := r.map fun (z : Nat) => D.int (z : Int)
abbrev Sc.pD (s : Sc) : D := .lst (s.ps.map .int)
abbrev Sc.tD (s : Sc) : D := .lst (s.mv.map fun r => .lst (natL r))
abbrev Sc.d (C : Addr) (s : Sc) : D := .ins C [("prices", s.pD), ("moves", s.tD)]
abbrev Sc.plain (s : Sc) : D := .tup [s.pD, s.tD]
def colOf (w : Nat) (c : Int) : Nat := (min c ((w : Int) - 1)).toNat
def Sc.go (s : Sc) (a : Nat) (c : Int) : Nat := (s.mv.getD a []).getD (colOf s.w c) 0
def Sc.price (s : Sc) (a : Nat) : Int := s.ps.getD a 0
def Sc.walk (s : Sc) : Nat → List Int → List Nat
  | a, [] => [a]
  | a, c :: cs => a :: s.walk (s.go a c) cs
def Sc.fin (s : Sc) : Nat → List Int → Nat
  | a, [] => a
  | a, c :: cs => s.fin (s.go a c) cs
theorem Sc.walk_snoc (s : Sc) : ∀ (cs : List Int) (a : Nat) (c : Int), s.walk a (cs ++ [c]) = s.walk a cs ++ [s.go (s.fin a cs) c]
  | [], a, c => rfl
  | b :: cs, a, c => by
    show a :: s.walk (s.go a b) (cs ++ [c]) = _
    rw [Sc.walk_snoc s cs]; rfl
theorem Sc.fin_snoc (s : Sc) : ∀ (cs : List Int) (a : Nat) (c : Int), s.fin a (cs ++ [c]) = s.go (s.fin a cs) c
  | [], a, c => rfl
  | b :: cs, a, c => Sc.fin_snoc s cs _ c
theorem Sc.walk_len (s : Sc) : ∀ (cs : List Int) (a : Nat), (s.walk a cs).length = cs.length + 1
  | [], a => rfl
  | c :: cs, a => congrArg (· + 1) (Sc.walk_len s cs _)
theorem colOf_lt {w : Nat} {c : Int} (hw : 1 ≤ w) (hc : 0 ≤ c) : colOf w c < w := by unfold colOf; omega
theorem getD_mem {r : List Nat} {i : Nat} (h : i < r.length) : r.getD i 0 ∈ r := by
  rw [List.getD_eq_getElem?_getD, List.getElem?_eq_getElem h]
  exact List.getElem_mem h
theorem atI_eq {ds : List D} {d : D} {i : Int} {j : Nat} (e : i = (j : Int)) (h : ds[j]? = some d) : atI ds i = some d := by rw [e]; exact atI_nat h
theorem natL_len {r : List Nat} : (natL r).length = r.length := List.length_map ..
theorem natL_at {r : List Nat} {i : Nat} (h : i < r.length) : (natL r)[i]? = some (.int (r.getD i 0 : Nat)) := by
  unfold natL
  rw [List.getElem?_map, List.getElem?_eq_getElem h, List.getD_eq_getElem?_getD, List.getElem?_eq_getElem h]
  rfl
section
variable {s : Sc} {a : Nat} {c : Int}
theorem Sc.Ok.rowD (h : s.Ok) (ha : a < s.n) : s.mv.getD a [] ∈ s.mv := by
  have hl : a < s.mv.length := by rw [h.len]; exact ha
  rw [List.getD_eq_getElem?_getD, List.getElem?_eq_getElem hl]
  exact List.getElem_mem hl
theorem Sc.Ok.rowL (h : s.Ok) (ha : a < s.n) : (s.mv.getD a []).length = s.w := h.row _ (h.rowD ha)
theorem Sc.Ok.go_lt (h : s.Ok) (ha : a < s.n) (hc : 0 ≤ c) : s.go a c < s.n := by
  refine h.cls _ (h.rowD ha) _ ?_
  have hl : colOf s.w c < (s.mv.getD a []).length := by rw [h.rowL ha]; exact colOf_lt h.w1 hc
  exact getD_mem hl
theorem Sc.Ok.tab_at (h : s.Ok) (ha : a < s.n) : (s.mv.map fun r => D.lst (natL r))[a]? = some (.lst (natL (s.mv.getD a []))) := by
  have hl : a < s.mv.length := by rw [h.len]; exact ha
  rw [List.getElem?_map, List.getElem?_eq_getElem hl, List.getD_eq_getElem?_getD, List.getElem?_eq_getElem hl]
  rfl
theorem Sc.price_at (ha : a < s.n) : (s.ps.map D.int)[a]? = some (.int (s.price a)) := by
  have ha' : a < s.ps.length := ha
  rw [List.getElem?_map, List.getElem?_eq_getElem ha']
  unfold Sc.price
  rw [List.getD_eq_getElem?_getD, List.getElem?_eq_getElem ha']
  rfl
theorem Sc.Ok.fin_lt (h : s.Ok) : ∀ (cs : List Int) (a : Nat), a < s.n → (∀ c ∈ cs, 0 ≤ c) → s.fin a cs < s.n
  | [], a, ha, _ => ha
  | c :: cs, a, ha, hc => h.fin_lt cs _ (h.go_lt ha (hc c (List.mem_cons_self ..))) fun d hd => hc d (List.mem_cons_of_mem _ hd)
theorem Sc.Ok.walk_lt (h : s.Ok) : ∀ (cs : List Int) (a : Nat), a < s.n → (∀ c ∈ cs, 0 ≤ c) → ∀ z ∈ s.walk a cs, z < s.n
  | [], a, ha, _, z, hz => by rw [List.mem_singleton.mp hz]; exact ha
  | c :: cs, a, ha, hc, z, hz => by
    rcases List.mem_cons.mp hz with rfl | hz
    · exact ha
    · exact h.walk_lt cs _ (h.go_lt ha (hc c (List.mem_cons_self ..))) (fun d hd => hc d (List.mem_cons_of_mem _ hd)) z hz
end
/-! ### what the package's defs give, where nothing is wrong -/
def A_has (C : Addr) (ds : List D) (P : D → Prop) : Prop := ∃ (s : Sc) (k : Nat), ds = [s.d C, .int k] ∧ k < s.n ∧ P (.bl true)
def A_cls (C : Addr) (ds : List D) (P : D → Prop) : Prop := ∃ (s : Sc) (k : Nat), ds = [s.d C, .int k] ∧ k < s.n ∧ P .non
def A_chkC (ds : List D) (P : D → Prop) : Prop := ∃ c : Int, ds = [.int c] ∧ 0 ≤ c ∧ P .non
def A_chkR (ds : List D) (P : D → Prop) : Prop := ∃ row : List Int, ds = [.lst (row.map .int)] ∧ (∀ c ∈ row, 0 ≤ c) ∧ P .non
def A_led (ds : List D) (P : D → Prop) : Prop := ∃ (r : List Nat) (c : Int), ds = [.lst (natL r), .int c] ∧ 1 ≤ r.length ∧ 0 ≤ c ∧ P (.int (r.getD (colOf r.length c) 0 : Nat))
def A_call (C : Addr) (ds : List D) (P : D → Prop) : Prop := ∃ (s : Sc) (k : Nat) (c : Int), ds = [s.d C, .int k, .int c] ∧ s.Ok ∧ k < s.n ∧ 0 ≤ c ∧ P (.int (s.go k c : Nat))
def A_len (C : Addr) (ds : List D) (P : D → Prop) : Prop := ∃ s : Sc, ds = [s.d C] ∧ P (.int (s.n : Nat))
def A_cols (C : Addr) (ds : List D) (P : D → Prop) : Prop := ∃ s : Sc, ds = [s.d C] ∧ s.Ok ∧ P (.int (s.w : Nat))
def A_price (C : Addr) (ds : List D) (P : D → Prop) : Prop := ∃ (s : Sc) (k : Nat), ds = [s.d C, .int k] ∧ k < s.n ∧ P (.int (s.price k))
def A_walk (C : Addr) (ds : List D) (P : D → Prop) : Prop := ∃ (s : Sc) (k : Nat) (row : List Int), ds = [s.d C, .int k, .lst (row.map .int)] ∧ s.Ok ∧ k < s.n ∧ (∀ c ∈ row, 0 ≤ c) ∧ row.length ≤ 100000 ∧ P (.lst (natL (s.walk k row)))
def A_bills (C : Addr) (ds : List D) (P : D → Prop) : Prop := ∃ (s : Sc) (k : Nat) (row : List Int), ds = [s.d C, .int k, .lst (row.map .int)] ∧ s.Ok ∧ k < s.n ∧ (∀ c ∈ row, 0 ≤ c) ∧ row.length ≤ 100000 ∧ P (.lst ((s.walk k row).dropLast.map fun z => D.int (s.price z)))
def A_pl (C : Addr) (ds : List D) (P : D → Prop) : Prop := ∃ s : Sc, ds = [s.d C] ∧ P s.pD
def A_tl (C : Addr) (ds : List D) (P : D → Prop) : Prop := ∃ s : Sc, ds = [s.d C] ∧ s.Ok ∧ P s.tD
section
variable {P : Program} {w : World} {K : PySem.W.Frag} {mg : Str → Option Value} {base : Heap} {f : Addr} {fd : FuncData} {C : Addr}
theorem ok_has (F : Fun K "__contains__" "Scale.__contains__" s_Scale_contains f fd) (bn : NoMg mg BI) (hC : Cls K C) (n1 : NoAttr K C "prices") (f1 : FnAt P w K mg base "is_between" 2 P_p_is_between (spD K none 3 A_betw)) : FnOk P w K mg base (L2.CX P w) 3 f fd P_Scale_contains (spD K none 2 (A_has C)) := by
  refine Fun.okD2 (Vn := V_Scale_contains) (L := L_Scale_contains) (G := G_Scale_contains) F sc_Scale_contains v_Scale_contains l_Scale_contains g_Scale_contains fun X ds Q dx hl hA => ?_
  obtain ⟨s, k, rfl, hk, q⟩ := hA
  refine wss_cons ?_
  repeat decreasing_trivial_pre_omega
  refine we_fld rfl ?_
  repeat decreasing_trivial_pre_omega
  refine ⟨C, _, _, rfl, by rw [dx.K_]; exact hC, by rw [dx.K_]; exact n1, rfl, ?_⟩
  repeat decreasing_trivial_pre_omega
  refine ⟨rfl, _, _, _, rfl, ⟨_, rfl⟩, ?_⟩
  rw [show betw (.int k) 0 _ = true from betw_int (by omega) (by rw [List.length_map]; have : k < s.ps.length := hk; omega)]
  exact q
theorem ok_cls (F : Fun K "check_class" "check_class" s_p_check_class f fd) (bn : NoMg mg BI) (f1 : SpAt P w K mg base C "__contains__" 3 P_Scale_contains (spD K none 2 (A_has C))) : FnOk P w K mg base (L2.CX P w) 4 f fd P_p_check_class (spD K none 2 (A_cls C)) := by
  refine Fun.okD2 (Vn := V_p_check_class) (L := L_p_check_class) (G := G_p_check_class) F sc_p_check_class v_p_check_class l_p_check_class g_p_check_class fun X ds Q dx hl hA => ?_
  obtain ⟨s, k, rfl, hk, q⟩ := hA
  refine wss_cons ?_
  refine ws_if (dlt_notInO dx f1 (by decide) rfl ?_)
  repeat decreasing_trivial_pre_omega
  refine ⟨rfl, s, k, rfl, hk, ?_⟩
  refine ite_f ?_
  repeat decreasing_trivial_pre_omega
  exact q
theorem ok_chkC (F : Fun K "check_claims" "check_claims" s_p_check_claims f fd) (bn : NoMg mg BI) (f1 : FnAt P w K mg base "is_integer" 1 P_p_is_integer (spD K none 1 A_isInt)) : FnOk P w K mg base (L2.CX P w) 2 f fd P_p_check_claims (spD K none 1 A_chkC) := by
  refine Fun.okD2 (Vn := V_p_check_claims) (L := L_p_check_claims) (G := G_p_check_claims) F sc_p_check_claims v_p_check_claims l_p_check_claims g_p_check_claims fun X ds Q dx hl hA => ?_
  obtain ⟨c, rfl, hc, q⟩ := hA
  refine wss_cons ?_
  repeat decreasing_trivial_pre_omega
  refine ⟨rfl, _, rfl, ⟨_, rfl⟩, ?_⟩
  refine ite_f ?_
  repeat decreasing_trivial_pre_omega
  refine ite_d (fun h => absurd h (by omega)) fun _ => ?_
  repeat decreasing_trivial_pre_omega
  exact q
theorem ok_chkR (F : Fun K "check_row" "check_row" s_p_check_row f fd) (bn : NoMg mg BI) (f1 : FnAt P w K mg base "check_claims" 2 P_p_check_claims (spD K none 1 A_chkC)) : FnOk P w K mg base (L2.CX P w) 3 f fd P_p_check_row (spD K none 1 A_chkR) := by
  refine Fun.okD2 (Vn := V_p_check_row) (L := L_p_check_row) (G := G_p_check_row) F sc_p_check_row v_p_check_row l_p_check_row g_p_check_row fun X ds Q dx hl hA => ?_
  obtain ⟨row, rfl, hr, q⟩ := hA
  refine wss_cons ?_
  refine dl_forL 1 (by assumption) (by array_get_dec) (by array_get_dec) (by with_unfolding_all exact fun _ => rfl) ?_
  refine dl_name (by assumption) (by array_get_dec) (by array_get_dec) (by with_unfolding_all rfl) ?_
  refine ⟨fun i ev => ∃ o : Option Slot, ev = [some (.frz (.lst (row.map .int))), o], ⟨none, rfl⟩, ?_, ?_⟩
  · rintro i d ev hi ⟨o, rfl⟩
    obtain ⟨c, hc, rfl⟩ := List.mem_map.mp (List.mem_of_getElem? hi)
    refine wss_cons ?_
    refine ws_expr ?_ (by with_unfolding_all rfl)
    repeat decreasing_trivial_pre_omega
    exact ⟨rfl, c, rfl, hr c hc, wss_nil ⟨_, rfl⟩⟩
  · rintro ev ⟨o, rfl⟩
    exact wss_nil q
theorem ok_led (F : Fun K "led_to" "led_to" s_p_led_to f fd) (bn : NoMg mg BI) : FnOk P w K mg base (L2.CX P w) 1 f fd P_p_led_to (spD K none 2 A_led) := by
  refine Fun.okD2 (Vn := V_p_led_to) (L := L_p_led_to) (G := G_p_led_to) F sc_p_led_to v_p_led_to l_p_led_to g_p_led_to fun X ds Q dx hl hA => ?_
  obtain ⟨r, c, rfl, h1, hc, q⟩ := hA
  refine wss_cons ?_
  repeat decreasing_trivial_pre_omega
  rw [natL_len]
  have e : min c ((r.length : Int) - 1) = (colOf r.length c : Nat) := by unfold colOf; omega
  exact ⟨_, atI_eq e (natL_at (colOf_lt h1 hc)), q⟩
end
end My
set_option Elab.async false
set_option linter.all false
set_option maxRecDepth 100000
set_option autoImplicit false
set_option pp.deepTerms false
set_option pp.deepTerms.threshold 7
set_option pp.maxSteps 1500
set_option maxHeartbeats 1600000
namespace My
open PySem L2 DL
/-- a place in a list of names -/
local macro_rules | `(tactic| array_get_dec) => `(tactic| repeat (first | exact At.z | apply At.s))
/-- one step -/
local macro_rules | `(tactic| decreasing_trivial_pre_omega) => `(tactic| with_reducible first
  | (refine we_int ?_)
  | (refine we_bl ?_)
  | (refine we_non ?_)
  | (refine we_str ?_)
  | (refine dl_name (by assumption) (by array_get_dec) (by array_get_dec) (by with_unfolding_all rfl) ?_)
  | (refine dl_ixOwn (by assumption) (by array_get_dec) (by array_get_dec) (by with_unfolding_all rfl) (by with_unfolding_all exact fun _ _ => rfl) ?_)
  | (refine we_ix (by with_unfolding_all exact fun _ _ => rfl) ?_)
  | (refine WL.we (wl_cat (b := .List _ _) ?_))
  | (refine we_add ?_)
  | (refine we_sub ?_)
  | (refine WL.we (wl_rep (a := .List _ _) ?_)) | (refine wl_rep (a := .List _ _) ?_)
  | (refine we_muls ?_)
  | (refine we_neg ?_)
  | (refine we_mod ?_)
  | (refine we_fdiv ?_)
  | (refine we_pow ?_)
  | (refine we_lt ?_) | (refine we_le ?_) | (refine we_gt ?_) | (refine we_ge ?_)
  | (refine we_lele (by with_unfolding_all rfl) ?_) | (refine wt_lele (by with_unfolding_all rfl) ?_)
  | (refine wt_lt ?_) | (refine wt_le ?_) | (refine wt_gt ?_) | (refine wt_ge ?_) | (refine wt_eqI ?_)
  | (refine wt_neI ?_) | (refine wt_isN ?_) | (refine wt_notN ?_) | (refine we_isN ?_) | (refine we_notN ?_)
  | (refine wa_nil ?_)
  | (refine wa_cons ?_ (by with_unfolding_all rfl))
  | (refine dl_len (by assumption) (by assumption) (by array_get_dec) (by array_get_dec) (by with_unfolding_all rfl) ?_)
  | (refine dl_abs (by assumption) (by assumption) (by array_get_dec) (by array_get_dec) (by with_unfolding_all rfl) ?_)
  | (refine dl_int (by assumption) (by assumption) (by array_get_dec) (by array_get_dec) (by with_unfolding_all rfl) ?_)
  | (refine dl_min (by assumption) (by assumption) (by array_get_dec) (by array_get_dec) (by with_unfolding_all rfl) (by with_unfolding_all rfl) ?_)
  | (refine dl_max (by assumption) (by assumption) (by array_get_dec) (by array_get_dec) (by with_unfolding_all rfl) (by with_unfolding_all rfl) ?_)
  | (refine dl_isi (by assumption) (by assumption) (by array_get_dec) (by array_get_dec) (by with_unfolding_all rfl) (by with_unfolding_all rfl) ?_)
  | (refine dl_all (by assumption) (by assumption) (by array_get_dec) (by array_get_dec) (by with_unfolding_all rfl) ?_)
  | (refine dl_list (by assumption) (by assumption) (by array_get_dec) (by array_get_dec) (by with_unfolding_all rfl) ?_)
  | (refine dl_tuple (by assumption) (by assumption) (by array_get_dec) (by array_get_dec) (by with_unfolding_all rfl) ?_)
  | (refine dl_ty (by assumption) (by assumption) boot_int (by array_get_dec) (by array_get_dec) ?_)
  | (refine dl_ty (by assumption) (by assumption) boot_bool (by array_get_dec) (by array_get_dec) ?_)
  | (refine dl_ty (by assumption) (by assumption) boot_list (by array_get_dec) (by array_get_dec) ?_)
  | (refine dl_pure (by assumption) (by assumption) (by array_get_dec) (by decide) (by with_unfolding_all rfl) (by with_unfolding_all rfl) ?_)
  | (refine dl_bag (by assumption) (by assumption) (by array_get_dec) (by decide) (by with_unfolding_all rfl) (by with_unfolding_all rfl) ?_)
  | (refine dl_glob (d := .int _) (v := .int _) (u := .int _ _) (by assumption) (by array_get_dec) (by assumption) (by with_unfolding_all exact ⟨_, rfl⟩) (by with_unfolding_all rfl) ?_)
  | (refine we_one ?_) | (refine we_eqI ?_) | (refine we_not ?_) | (refine we_and ?_) | (refine we_or ?_)
  | (refine wt_val ?_ (by with_unfolding_all exact fun _ => rfl))
  | (refine WL.we (wl_lst ?_)) | (refine WL.we (wl_slice ?_)) | (refine wl_lst ?_) | (refine wl_slice ?_) | (refine wl_cat ?_)
  | (refine wo_none ?_) | (refine wo_some ?_) | (refine we_tup ?_)
  | (refine wss_nil ?_)
  | (refine ws_ret ?_)
  | (refine ws_if ?_)
  | (refine WW.wt (ww_and ?_)) | (refine WW.wt (ww_or ?_))
  | (refine wt_not ?_)
  | (refine ww_and ?_) | (refine ww_or ?_) | (refine ww_and1 ?_) | (refine ww_or1 ?_)
  | (refine dl_set (by assumption) (by array_get_dec) (by array_get_dec) (by with_unfolding_all rfl) ?_)
  | (refine dl_setIx (by assumption) (by array_get_dec) (by array_get_dec) (by with_unfolding_all rfl) (by with_unfolding_all exact fun _ => rfl) (by with_unfolding_all rfl) (by with_unfolding_all rfl) (by with_unfolding_all rfl) ?_)
  | (refine ite_t ?_) | (refine ite_f ?_)
  | (refine ⟨(by simp : List.length _ ≤ 1000000), ?_⟩)
  | (with_unfolding_all refine ⟨_, rfl, ?_⟩))
theorem cut_init {xs : List D} : cut xs none (some (-1)) = xs.dropLast := by
  unfold cut
  have e : HT.sIx xs.length xs.length (some (-1)) = xs.length - 1 := by
    show (if (-1 : Int) < 0 then ((-1 : Int) + (xs.length : Int)).toNat else min (-1 : Int).toNat xs.length) = _
    rw [if_pos (by decide)]
    omega
  rw [HT.sIx_none, e, List.drop_zero, List.dropLast_eq_take]
  rfl
def TabOwn (s : Sc) (es : List D) : Prop := es.length = s.mv.length ∧ ∀ (i : Nat) (e : D), es[i]? = some e → ∃ (q : Addr) (r : List Nat), s.mv[i]? = some r ∧ e = .own q (natL r)
def A_plR (C : Addr) (ds : List D) (P : D → Prop) (PX : Addr → List (Str × D) → Prop) : Prop := ∃ s : Sc, ds = [s.d C] ∧ ∀ p, P (.own p (s.ps.map .int))
def A_tlR (C : Addr) (ds : List D) (P : D → Prop) (PX : Addr → List (Str × D) → Prop) : Prop := ∃ s : Sc, ds = [s.d C] ∧ s.Ok ∧ ∀ p es, TabOwn s es → P (.own p es)
theorem er_natL : ∀ r : List Nat, D.erAll (natL r) = natL r
  | [] => rfl
  | z :: r => by show D.int z :: D.erAll (natL r) = _; rw [er_natL r]; rfl
theorem er_ints : ∀ r : List Int, D.erAll (r.map .int) = r.map .int
  | [] => rfl
  | z :: r => by show D.int z :: D.erAll (r.map .int) = _; rw [er_ints r]; rfl
theorem er_tab {s : Sc} {es : List D} (h : TabOwn s es) : D.erAll es = s.mv.map fun r => D.lst (natL r) := by
  refine List.ext_getElem? fun i => ?_
  rw [erAll_get, List.getElem?_map]
  cases e : es[i]? with
  | none =>
    have : s.mv[i]? = none := by rw [List.getElem?_eq_none_iff] at e ⊢; rw [← h.1]; exact e
    rw [this]; rfl
  | some d =>
    obtain ⟨q, r, hr, rfl⟩ := h.2 i d e
    rw [hr]
    show some (D.lst (D.erAll (natL r))) = _
    rw [er_natL]; rfl
section
variable {P : Program} {w : World} {K : PySem.W.Frag} {mg : Str → Option Value} {base : Heap} {f : Addr} {fd : FuncData} {C : Addr}
theorem ok_plR (F : Fun K "premiums" "Scale.premiums" s_Scale_premiums f fd) (bn : NoMg mg BI) (hC : Cls K C) (n1 : NoAttr K C "prices") : FnOk P w K mg base (L2.CX P w) 1 f fd P_Scale_premiums (spRL K [false] (A_plR C)) := by
  refine Fun.okRL (Vn := V_Scale_premiums) (L := L_Scale_premiums) (G := G_Scale_premiums) F sc_Scale_premiums rfl v_Scale_premiums l_Scale_premiums g_Scale_premiums fun X ds Q QX dx hl hA => ?_
  obtain ⟨s, rfl, q⟩ := hA
  refine wss_cons ?_
  refine ws_retR (WL.wr ?_)
  repeat decreasing_trivial_pre_omega
  refine we_fld rfl ?_
  repeat decreasing_trivial_pre_omega
  exact ⟨C, _, _, rfl, by rw [dx.K_]; exact hC, by rw [dx.K_]; exact n1, rfl, q⟩
theorem ok_tlR (F : Fun K "table" "Scale.table" s_Scale_table f fd) (bn : NoMg mg BI) (hC : Cls K C) (n2 : NoAttr K C "moves") : FnOk P w K mg base (L2.CX P w) 1 f fd P_Scale_table (spRL K [false] (A_tlR C)) := by
  refine Fun.okRL (Vn := V_Scale_table) (L := L_Scale_table) (G := G_Scale_table) F sc_Scale_table rfl v_Scale_table l_Scale_table g_Scale_table fun X ds Q QX dx hl hA => ?_
  obtain ⟨s, rfl, ho, q⟩ := hA
  refine wss_cons ?_
  refine ws_retR ?_
  refine dl_wcomp 1 own_Scale_table_0 Vc_Scale_table_0 Gc_Scale_table_0 (by assumption) (by decide +kernel) rfl (by array_get_dec) (by decide +kernel) (by decide +kernel) (by decide +kernel) (by with_unfolding_all exact fun _ => rfl) ?_
  refine we_fld rfl ?_
  repeat decreasing_trivial_pre_omega
  refine ⟨C, _, _, rfl, by rw [dx.K_]; exact hC, by rw [dx.K_]; exact n2, rfl, by rw [List.length_map, ho.len]; have := ho.n2; omega, fun i e => ∃ (q : Addr) (r : List Nat), s.mv[i]? = some r ∧ e = .own q (natL r), fun i d hi X' dx' hK => ?_, fun es hes hE p => q p es ⟨by rw [hes, List.length_map], hE⟩⟩
  rw [List.getElem?_map] at hi
  cases hr : s.mv[i]? with
  | none => rw [hr] at hi; cases hi
  | some r =>
    rw [hr] at hi
    cases hi
    refine WL.wr ?_
    repeat decreasing_trivial_pre_omega
    exact fun p => ⟨p, r, hr, rfl⟩
theorem plD {A : FnOk P w K mg base (L2.CX P w) 1 f fd P_Scale_premiums (spRL K [false] (A_plR C))} : FnOk P w K mg base (L2.CX P w) 1 f fd P_Scale_premiums (spD K none 1 (A_pl C)) := A.imp fun vs H Q E q => spD_of (A := A_plR C) (fun ds P ⟨s, e, h⟩ => ⟨s, e, fun p => by show P (.lst (D.erAll _)); rw [er_ints]; exact h⟩) vs H Q E q
theorem tlD {A : FnOk P w K mg base (L2.CX P w) 1 f fd P_Scale_table (spRL K [false] (A_tlR C))} : FnOk P w K mg base (L2.CX P w) 1 f fd P_Scale_table (spD K none 1 (A_tl C)) := A.imp fun vs H Q E q => spD_of (A := A_tlR C) (fun ds P ⟨s, e, ho, h⟩ => ⟨s, e, ho, fun p es he => by show P (.lst (D.erAll _)); rw [er_tab he]; exact h⟩) vs H Q E q
end
end My
set_option Elab.async false
set_option linter.all false
set_option maxRecDepth 100000
set_option autoImplicit false
set_option pp.deepTerms false
set_option pp.deepTerms.threshold 7
set_option pp.maxSteps 1500
set_option maxHeartbeats 1600000
namespace My
open PySem L2 DL
/-- a place in a list of names -/
local macro_rules | `(tactic| array_get_dec) => `(tactic| repeat (first | exact At.z | apply At.s))
/-- one step -/
local macro_rules | `(tactic| decreasing_trivial_pre_omega) => `(tactic| with_reducible first
  | (refine we_int ?_)
  | (refine we_bl ?_)
  | (refine we_non ?_)
  | (refine we_str ?_)
  | (refine dl_name (by assumption) (by array_get_dec) (by array_get_dec) (by with_unfolding_all rfl) ?_)
  | (refine dl_ixOwn (by assumption) (by array_get_dec) (by array_get_dec) (by with_unfolding_all rfl) (by with_unfolding_all exact fun _ _ => rfl) ?_)
  | (refine we_ix (by with_unfolding_all exact fun _ _ => rfl) ?_)
  | (refine WL.we (wl_cat (b := .List _ _) ?_))
  | (refine we_add ?_)
  | (refine we_sub ?_)
  | (refine WL.we (wl_rep (a := .List _ _) ?_)) | (refine wl_rep (a := .List _ _) ?_)
  | (refine we_muls ?_)
  | (refine we_neg ?_)
  | (refine we_mod ?_)
  | (refine we_fdiv ?_)
  | (refine we_pow ?_)
  | (refine we_lt ?_) | (refine we_le ?_) | (refine we_gt ?_) | (refine we_ge ?_)
  | (refine we_lele (by with_unfolding_all rfl) ?_) | (refine wt_lele (by with_unfolding_all rfl) ?_)
  | (refine wt_lt ?_) | (refine wt_le ?_) | (refine wt_gt ?_) | (refine wt_ge ?_) | (refine wt_eqI ?_)
  | (refine wt_neI ?_) | (refine wt_isN ?_) | (refine wt_notN ?_) | (refine we_isN ?_) | (refine we_notN ?_)
  | (refine wa_nil ?_)
  | (refine wa_cons ?_ (by with_unfolding_all rfl))
  | (refine dl_len (by assumption) (by assumption) (by array_get_dec) (by array_get_dec) (by with_unfolding_all rfl) ?_)
  | (refine dl_abs (by assumption) (by assumption) (by array_get_dec) (by array_get_dec) (by with_unfolding_all rfl) ?_)
  | (refine dl_int (by assumption) (by assumption) (by array_get_dec) (by array_get_dec) (by with_unfolding_all rfl) ?_)
  | (refine dl_min (by assumption) (by assumption) (by array_get_dec) (by array_get_dec) (by with_unfolding_all rfl) (by with_unfolding_all rfl) ?_)
  | (refine dl_max (by assumption) (by assumption) (by array_get_dec) (by array_get_dec) (by with_unfolding_all rfl) (by with_unfolding_all rfl) ?_)
  | (refine dl_isi (by assumption) (by assumption) (by array_get_dec) (by array_get_dec) (by with_unfolding_all rfl) (by with_unfolding_all rfl) ?_)
  | (refine dl_all (by assumption) (by assumption) (by array_get_dec) (by array_get_dec) (by with_unfolding_all rfl) ?_)
  | (refine dl_list (by assumption) (by assumption) (by array_get_dec) (by array_get_dec) (by with_unfolding_all rfl) ?_)
  | (refine dl_tuple (by assumption) (by assumption) (by array_get_dec) (by array_get_dec) (by with_unfolding_all rfl) ?_)
  | (refine dl_ty (by assumption) (by assumption) boot_int (by array_get_dec) (by array_get_dec) ?_)
  | (refine dl_ty (by assumption) (by assumption) boot_bool (by array_get_dec) (by array_get_dec) ?_)
  | (refine dl_ty (by assumption) (by assumption) boot_list (by array_get_dec) (by array_get_dec) ?_)
  | (refine dl_pure (by assumption) (by assumption) (by array_get_dec) (by decide) (by with_unfolding_all rfl) (by with_unfolding_all rfl) ?_)
  | (refine dl_bag (by assumption) (by assumption) (by array_get_dec) (by decide) (by with_unfolding_all rfl) (by with_unfolding_all rfl) ?_)
  | (refine dl_glob (d := .int _) (v := .int _) (u := .int _ _) (by assumption) (by array_get_dec) (by assumption) (by with_unfolding_all exact ⟨_, rfl⟩) (by with_unfolding_all rfl) ?_)
  | (refine we_one ?_) | (refine we_eqI ?_) | (refine we_not ?_) | (refine we_and ?_) | (refine we_or ?_)
  | (refine wt_val ?_ (by with_unfolding_all exact fun _ => rfl))
  | (refine WL.we (wl_lst ?_)) | (refine WL.we (wl_slice ?_)) | (refine wl_lst ?_) | (refine wl_slice ?_) | (refine wl_cat ?_)
  | (refine wo_none ?_) | (refine wo_some ?_) | (refine we_tup ?_)
  | (refine wss_nil ?_)
  | (refine ws_ret ?_)
  | (refine ws_if ?_)
  | (refine WW.wt (ww_and ?_)) | (refine WW.wt (ww_or ?_))
  | (refine wt_not ?_)
  | (refine ww_and ?_) | (refine ww_or ?_) | (refine ww_and1 ?_) | (refine ww_or1 ?_)
  | (refine dl_set (by assumption) (by array_get_dec) (by array_get_dec) (by with_unfolding_all rfl) ?_)
  | (refine dl_setIx (by assumption) (by array_get_dec) (by array_get_dec) (by with_unfolding_all rfl) (by with_unfolding_all exact fun _ => rfl) (by with_unfolding_all rfl) (by with_unfolding_all rfl) (by with_unfolding_all rfl) ?_)
  | (refine ite_t ?_) | (refine ite_f ?_)
  | (refine ⟨(by simp : List.length _ ≤ 1000000), ?_⟩)
  | (with_unfolding_all refine ⟨_, rfl, ?_⟩))

theorem draw_le6 {n : Int} (h : n ≤ 1000000000) : n < 2 ^ 4000 := Int.lt_of_le_of_lt h (by decide +kernel)
theorem lst_of_ints {zs : List Int} {f m h : Int} (h1 : f ≤ zs.length) (h2 : (zs.length : Int) ≤ m) (h3 : ∀ z ∈ zs, 0 ≤ z ∧ z ≤ h) : lstOf (.lst (zs.map .int)) f m h = true := by
  show ((decide (f ≤ (zs.map D.int).length) && decide (((zs.map D.int).length : Int) ≤ m)) && (zs.map D.int).all (betw · 0 h)) = true
  rw [List.length_map, decide_eq_true h1, decide_eq_true h2, Bool.true_and, Bool.true_and, List.all_eq_true]
  intro x hx
  obtain ⟨z, hz, rfl⟩ := List.mem_map.mp hx
  exact betw_int (h3 z hz).1 (h3 z hz).2
theorem natL_eq {r : List Nat} : natL r = (r.map fun (z : Nat) => (z : Int)).map D.int := by unfold natL; rw [List.map_map]; rfl
theorem Sc.Ok.good {s : Sc} (h : s.Ok) : flatP s.pD ∧ lstOf s.pD 1 12 1000000 = true ∧ deepP s.tD ∧ tabOf s.tD s.n = true := by
  have h1 : 1 ≤ s.ps.length := h.n1
  have h2 : s.ps.length ≤ 12 := h.n2
  have w1 := h.w1
  have w2 := h.w2
  have row : ∀ r ∈ s.mv, lstOf (.lst (natL r)) 1 5 (s.n - 1) = true ∧ flatP (.lst (natL r)) := fun r hr => by
    have hl := h.row r hr
    rw [natL_eq]
    refine ⟨lst_of_ints (by rw [List.length_map]; omega) (by rw [List.length_map]; omega) fun z hz => ?_, flat_ints (by rw [List.length_map]; omega)⟩
    obtain ⟨x, hx, rfl⟩ := List.mem_map.mp hz
    have := h.cls r hr x hx
    omega
  refine ⟨flat_ints (by omega), lst_of_ints (by omega) (by omega) h.pr, ⟨⟨_, rfl⟩, fun es e => ?_⟩, ?_⟩
  · cases e
    refine ⟨by rw [List.length_map, h.len]; have := h.n2; omega, fun x hx => ?_⟩
    obtain ⟨r, hr, rfl⟩ := List.mem_map.mp hx
    exact (row r hr).2
  · have hw : ∀ x ∈ s.mv.map fun r => D.lst (natL r), My.wide x = s.w := fun x hx => by
      obtain ⟨r, hr, rfl⟩ := List.mem_map.mp hx
      show (natL r).length = _
      rw [natL_len, h.row r hr]
    show (decide (((s.mv.map fun r => D.lst (natL r)).length : Int) = s.n) && ((s.mv.map fun r => D.lst (natL r)).all (lstOf · 1 5 (s.n - 1)) && (s.mv.map fun r => D.lst (natL r)).all fun l => decide (My.wide l = My.wide ((s.mv.map fun r => D.lst (natL r)).headD .non)))) = true
    rw [List.length_map, h.len, decide_eq_true rfl, Bool.true_and, Bool.and_eq_true, List.all_eq_true, List.all_eq_true]
    refine ⟨fun x hx => ?_, fun x hx => ?_⟩
    · obtain ⟨r, hr, rfl⟩ := List.mem_map.mp hx
      exact (row r hr).1
    · have hd : (s.mv.map fun r => D.lst (natL r)).headD .non ∈ s.mv.map fun r => D.lst (natL r) := by
        cases e : s.mv.map fun r => D.lst (natL r) with
        | nil => rw [e] at hx; cases hx
        | cons a b => exact List.mem_cons_self ..
      rw [hw x hx, hw _ hd]
      exact decide_eq_true rfl
def A_lled (ds : List D) (P : D → Prop) : Prop := ∃ (s : Sc) (a : Nat) (c : Int), ds = [s.plain, .int a, .int c] ∧ s.Ok ∧ a < s.n ∧ 0 ≤ c ∧ P (.int (s.go a c : Nat))
def A_like (C : Addr) (ds : List D) (P : D → Prop) : Prop := ∃ s : Sc, ds = [s.d C, s.plain] ∧ s.Ok ∧ P (.bl true)
theorem row_nat {n : Nat} : ∀ {zs : List Int}, (∀ z ∈ zs, 0 ≤ z ∧ z < (n : Int)) → ∃ r : List Nat, D.lst (zs.map D.int) = .lst (natL r) ∧ r.length = zs.length ∧ ∀ z ∈ r, z < n
  | [], _ => ⟨[], rfl, rfl, fun z h => nomatch h⟩
  | z :: zs, h => by
    obtain ⟨r, e, hl, hr⟩ := row_nat fun y hy => h y (List.mem_cons_of_mem _ hy)
    obtain ⟨h1, h2⟩ := h z (List.mem_cons_self ..)
    refine ⟨z.toNat :: r, ?_, by rw [List.length_cons, List.length_cons, hl], fun y hy => ?_⟩
    · have e' := D.lst.inj e
      show D.lst (D.int z :: zs.map D.int) = D.lst (D.int ((z.toNat : Nat) : Int) :: natL r)
      rw [e', show ((z.toNat : Nat) : Int) = z by omega]
    · rcases List.mem_cons.mp hy with rfl | hy
      · omega
      · exact hr y hy
theorem rows_nat {n w : Nat} : ∀ {ts : List D}, (∀ x ∈ ts, RowOk n w x) → ∃ mv : List (List Nat), ts = mv.map (fun r => D.lst (natL r)) ∧ ∀ r ∈ mv, r.length = w ∧ ∀ z ∈ r, z < n
  | [], _ => ⟨[], rfl, fun z h => nomatch h⟩
  | x :: ts, h => by
    obtain ⟨mv, rfl, hm⟩ := rows_nat fun y hy => h y (List.mem_cons_of_mem _ hy)
    obtain ⟨zs, rfl, hl, hz⟩ := h _ (List.mem_cons_self ..)
    obtain ⟨r, e, hrl, hr⟩ := row_nat hz
    refine ⟨r :: mv, by rw [e]; rfl, fun y hy => ?_⟩
    rcases List.mem_cons.mp hy with rfl | hy
    · exact ⟨hrl.trans hl, hr⟩
    · exact hm y hy
theorem good_sc {m : Int} {p t : D} (h : GoodS m p t) : ∃ s : Sc, s.Ok ∧ p = s.pD ∧ t = s.tD ∧ (s.n : Int) ≤ m := by
  obtain ⟨ps, ts, u, rfl, rfl, hp1, hp2, hu1, hu2, hpm, hps, htl, hrow⟩ := h
  obtain ⟨mv, rfl, hmv⟩ := rows_nat hrow
  rw [List.length_map] at htl
  have hw : Sc.w ⟨ps, mv⟩ = u := by
    cases mv with
    | nil => simp at htl; omega
    | cons r mv => exact (hmv r (List.mem_cons_self ..)).1
  refine ⟨⟨ps, mv⟩, ⟨hp1, hp2, htl, by rw [hw]; exact hu1, by rw [hw]; exact hu2, fun r hr => ?_, fun r hr => (hmv r hr).2, hps⟩, rfl, rfl, hpm⟩
  rw [hw]
  exact (hmv r hr).1
theorem ix_nat {n k : Nat} (h : k < n) : seqIndex? (k : Int) n = some k := by
  unfold seqIndex?
  have e : (if ((k : Nat) : Int) < 0 then (k : Int) + n else (k : Int)) = k := if_neg (by omega)
  simp only [e]
  rw [if_pos (by simp; omega)]
  rfl
theorem erase_perm : ∀ {α : Type} {l : List α} {k : Nat} {u : α}, l[k]? = some u → (u :: l.eraseIdx k).Perm l
  | _, [], k, u, h => by simp at h
  | _, a :: l, 0, u, h => by simp at h; subst h; exact .refl _
  | _, a :: l, k + 1, u, h => by
    rw [List.eraseIdx_cons_succ]
    exact (List.Perm.swap a u _).trans (.cons a (erase_perm (by simpa using h)))
def A_mixed (ds : List D) (P : D → Prop) : Prop := ∃ xs : List D, ds = [.lst xs] ∧ xs.length ≤ 1000 ∧ ∀ ys : List D, ys.Perm xs → P (.lst ys)
section
variable {P : Program} {w : World} {K : PySem.W.Frag} {mg : Str → Option Value} {base : Heap} {f : Addr} {fd : FuncData} {C : Addr}
theorem ok_mixed (F : Fun K "_law_mixed" "_law_mixed" s_l_mixed f fd) (bn : NoMg mg BI) (f1 : FnAt P w K mg base "_law_draw" 1 P_l_draw (spB K 2 A_draw)) : FnOk P w K mg base (L2.CX P w) 2 f fd P_l_mixed (spB K 2 A_mixed) := by
  refine Fun.okB2 (Vn := V_l_mixed) (L := L_l_mixed) (G := G_l_mixed) F sc_l_mixed v_l_mixed l_l_mixed g_l_mixed fun X b ds Q dx hl hA => ?_
  obtain ⟨xs, rfl, hx, q⟩ := hA
  refine wss_cons ?_
  refine dl_setL (by assumption) (by array_get_dec) (by array_get_dec) (by with_unfolding_all rfl) ?_
  repeat decreasing_trivial_pre_omega
  intro p0
  refine wss_cons ?_
  refine dl_setL (by assumption) (by array_get_dec) (by array_get_dec) (by with_unfolding_all rfl) ?_
  repeat decreasing_trivial_pre_omega
  intro p1
  refine wss_cut (fun ev => ∃ (ys : List D) (o4 : Option Slot), ys.Perm xs ∧ ev = [some (.frz (.ref b)), some (.frz (.lst xs)), some (.own p0 (.lst [])), some (.own p1 (.lst ys)), o4]) ?_ ?_
  · refine dl_forR 4 (by assumption) (by assumption) (by array_get_dec) (by array_get_dec) (by array_get_dec) (by array_get_dec) (by with_unfolding_all rfl) (by with_unfolding_all exact fun _ => rfl) ?_
    repeat decreasing_trivial_pre_omega
    refine ⟨⟨by omega, by omega⟩, fun i ev => ∃ (ys zs : List D) (o4 : Option Slot), (ys ++ zs).Perm xs ∧ ys.length = i ∧ ev = [some (.frz (.ref b)), some (.frz (.lst xs)), some (.own p0 (.lst zs)), some (.own p1 (.lst ys)), o4], ⟨[], xs, none, .refl _, rfl, by with_unfolding_all rfl⟩, ?_, ?_⟩
    · rintro i ev hi ⟨ys, zs, o4, hp, hy, rfl⟩
      have hlen := hp.length_eq
      rw [List.length_append] at hlen
      refine wss_cons ?_
      refine dl_appPop (i := 3) (j := 2) (by assumption) (by array_get_dec) (by array_get_dec) (by array_get_dec) (by array_get_dec) (by decide) (by with_unfolding_all exact fun h1 h2 => pe_bm PySem.F.plainAttrs_list PySem.F.slot_list_append PySem.F.type_list_append mt_append h1 h2) (by with_unfolding_all exact fun h1 h2 => pe_bm PySem.F.plainAttrs_list PySem.F.slot_list_pop PySem.F.type_list_pop mt_popAt h1 h2) (by with_unfolding_all rfl) (by with_unfolding_all rfl) (by with_unfolding_all rfl) (by with_unfolding_all rfl) (by with_unfolding_all rfl) (by omega) ?_
      refine dl_bag (by assumption) (by assumption) (by array_get_dec) (by decide) (by with_unfolding_all rfl) (by with_unfolding_all rfl) ?_
      refine wa_cons (dl_name (by assumption) (by array_get_dec) (by array_get_dec) (by with_unfolding_all rfl) ?_) (by with_unfolding_all rfl)
      refine wa_cons (dl_lenOwn (by assumption) (by assumption) (by array_get_dec) (by array_get_dec) (by array_get_dec) (by array_get_dec) (by with_unfolding_all rfl) ?_) (by with_unfolding_all rfl)
      refine wa_nil ⟨rfl, _, rfl, zs.length, rfl, by omega, draw_le6 (by omega), fun r h0 h1 => ?_⟩
      obtain ⟨k, rfl⟩ := Int.eq_ofNat_of_zero_le h0
      have hk : k < zs.length := by omega
      refine ⟨k, zs[k], by omega, by omega, ix_nat hk, List.getElem?_eq_getElem hk, ?_⟩
      refine wss_nil ⟨ys ++ [zs[k]], zs.eraseIdx k, some (.frz (.int i)), ?_, by rw [List.length_append, hy]; rfl, by with_unfolding_all rfl⟩
      refine List.Perm.trans ?_ hp
      rw [List.append_assoc]
      exact List.Perm.append_left _ (erase_perm (List.getElem?_eq_getElem hk))
    · rintro ev ⟨ys, zs, o4, hp, hy, rfl⟩
      have hlen := hp.length_eq
      rw [List.length_append] at hlen
      have hz : zs = [] := List.length_eq_zero_iff.mp (by omega)
      subst hz
      rw [List.append_nil] at hp
      exact ⟨ys, o4, hp, rfl⟩
  · rintro ev ⟨ys, o4, hp, rfl⟩
    refine wss_cons ?_
    refine dl_retOwn (by assumption) (by array_get_dec) (by array_get_dec) (by with_unfolding_all rfl) ?_
    exact q ys hp
theorem ok_lled (F : Fun K "_law_led" "_law_led" s_l_led f fd) (bn : NoMg mg BI) : FnOk P w K mg base (L2.CX P w) 1 f fd P_l_led (spD K none 3 A_lled) := by
  refine Fun.okD2 (Vn := V_l_led) (L := L_l_led) (G := G_l_led) F sc_l_led v_l_led l_l_led g_l_led fun X ds Q dx hl hA => ?_
  obtain ⟨s, a, c, rfl, ho, ha, hc, q⟩ := hA
  refine wss_cons ?_
  repeat decreasing_trivial_pre_omega
  refine ⟨_, atI_nat (ho.tab_at ha), ?_⟩
  refine wss_cons ?_
  repeat decreasing_trivial_pre_omega
  have e : min c (((natL (s.mv.getD a [])).length : Int) - 1) = (colOf s.w c : Nat) := by rw [natL_len, ho.rowL ha]; have := ho.w1; unfold colOf; omega
  exact ⟨_, atI_eq e (natL_at (by rw [ho.rowL ha]; exact colOf_lt ho.w1 hc)), q⟩
theorem D.eq_self {d : D} (h : d.ok 64 = true) : d.eq d = true := PySem.SeqAt.eqv_refl _ (D.ok_lay 64 d h).1
theorem ok_ints {n : Nat} {ps : List Int} : D.okAll n (ps.map .int) = true := by
  induction ps with
  | nil => rfl
  | cons p ps ih => rw [List.map_cons, D.okAll, ih, Bool.and_true]; cases n <;> rfl
theorem ok_lst {ps : List Int} : (D.lst (ps.map .int)).ok 64 = true := by rw [show (64 : Nat) = 63 + 1 from rfl, D.ok]; exact ok_ints
theorem okAll_of {n : Nat} : ∀ {ds : List D}, (∀ d ∈ ds, d.ok n = true) → D.okAll n ds = true
  | [], _ => rfl
  | d :: ds, h => by rw [D.okAll, h d (List.mem_cons_self ..), okAll_of fun e he => h e (List.mem_cons_of_mem _ he)]; rfl
theorem Sc.ok_tD {s : Sc} : s.tD.ok 64 = true := by
  rw [show (64 : Nat) = 63 + 1 from rfl, D.ok]
  refine okAll_of fun d hd => ?_
  obtain ⟨k, _, rfl⟩ := List.mem_map.mp hd
  rw [show (63 : Nat) = 62 + 1 from rfl, D.ok, natL_eq]
  exact ok_ints
theorem ok_like (F : Fun K "_law_like" "_law_like" s_l_like f fd) (bn : NoMg mg BI) (hC : Cls K C) (f1 : MeAt P w K mg base C "premiums" 1 P_Scale_premiums (spD K none 1 (A_pl C))) (f2 : MeAt P w K mg base C "table" 1 P_Scale_table (spD K none 1 (A_tl C))) : FnOk P w K mg base (L2.CX P w) 2 f fd P_l_like (spD K none 2 (A_like C)) := by
  refine Fun.okD2 (Vn := V_l_like) (L := L_l_like) (G := G_l_like) F sc_l_like v_l_like l_l_like g_l_like fun X ds Q dx hl hA => ?_
  obtain ⟨s, rfl, ho, q⟩ := hA
  have hun := dx.room.un
  refine wss_cons ?_
  refine ws_ret (we_and (we_eq (by omega) (dl_meth0 dx hC f1 (by decide) (by with_unfolding_all rfl) ?_)))
  repeat decreasing_trivial_pre_omega
  refine ⟨rfl, rfl, s, rfl, ?_⟩
  repeat decreasing_trivial_pre_omega
  refine ⟨ok_lst, ok_lst, ?_⟩
  rw [D.eq_self ok_lst]
  refine ite_t (we_one (we_eq (by omega) (dl_meth0 dx hC f2 (by decide) (by with_unfolding_all rfl) ?_)))
  repeat decreasing_trivial_pre_omega
  refine ⟨rfl, rfl, s, rfl, ho, ?_⟩
  repeat decreasing_trivial_pre_omega
  refine ⟨Sc.ok_tD, Sc.ok_tD, ?_⟩
  rw [D.eq_self Sc.ok_tD]
  exact q

theorem atI_last {ds : List D} {d : D} {n : Nat} (h : ds.length = n + 1) (e : ds[n]? = some d) : atI ds (-1) = some d := by
  unfold atI ixN
  rw [if_neg (by decide), if_pos (by omega), h]
  simp only [Option.bind_some]
  have : ((-1 : Int) + ((n + 1 : Nat) : Int)).toNat = n := by omega
  first
    | (rw [this]; exact e)
    | exact e
def A_lcls (ds : List D) (P : D → Prop) : Prop := ∃ (s : Sc) (k : Nat) (row : List Int), ds = [s.plain, .int k, .lst (row.map .int)] ∧ s.Ok ∧ k < s.n ∧ (∀ c ∈ row, 0 ≤ c) ∧ row.length ≤ 100000 ∧ P (.lst (natL (s.walk k row)))
theorem walk_last (s : Sc) : ∀ (cs : List Int) (a : Nat), (s.walk a cs)[cs.length]? = some (s.fin a cs)
  | [], a => rfl
  | c :: cs, a => by
    show (a :: s.walk (s.go a c) cs)[cs.length + 1]? = _
    rw [List.getElem?_cons_succ]
    exact walk_last s cs (s.go a c)
theorem ok_lcls (F : Fun K "_law_classes" "_law_classes" s_l_classes f fd) (bn : NoMg mg BI) (f1 : FnAt P w K mg base "_law_led" 1 P_l_led (spD K none 3 A_lled)) : FnOk P w K mg base (L2.CX P w) 2 f fd P_l_classes (spD K none 3 A_lcls) := by
  refine Fun.okD2 (Vn := V_l_classes) (L := L_l_classes) (G := G_l_classes) F sc_l_classes v_l_classes l_l_classes g_l_classes fun X ds Q dx hl hA => ?_
  obtain ⟨s, k, row, rfl, ho, hk, hr, hrl, q⟩ := hA
  refine wss_cons ?_
  refine dl_setL (by assumption) (by array_get_dec) (by array_get_dec) (by with_unfolding_all rfl) ?_
  repeat decreasing_trivial_pre_omega
  intro tp
  refine wss_cut (fun ev => ∃ o4 : Option Slot, ev = [some (.frz s.plain), some (.frz (.int k)), some (.frz (.lst (row.map .int))), some (.own tp (.lst (natL (s.walk k row)))), o4]) ?_ ?_
  · refine dl_forL 4 (by assumption) (by array_get_dec) (by array_get_dec) (by with_unfolding_all exact fun _ => rfl) ?_
    refine dl_name (by assumption) (by array_get_dec) (by array_get_dec) (by with_unfolding_all rfl) ?_
    refine ⟨fun i ev => ∃ o4 : Option Slot, ev = [some (.frz s.plain), some (.frz (.int k)), some (.frz (.lst (row.map .int))), some (.own tp (.lst (natL (s.walk k (row.take i))))), o4], ⟨none, by with_unfolding_all rfl⟩, ?_, ?_⟩
    · rintro i d ev hi ⟨o4, rfl⟩
      rw [List.getElem?_map] at hi
      cases hz : row[i]? with
      | none => rw [hz] at hi; cases hi
      | some c =>
        rw [hz] at hi
        cases hi
        have hlt := (List.getElem?_eq_some_iff.mp hz).1
        have hc : 0 ≤ c := hr c (List.mem_of_getElem? hz)
        have ha : s.fin k (row.take i) < s.n := ho.fin_lt _ _ hk fun d hd => hr d (List.mem_of_mem_take hd)
        have e : row.take (i + 1) = row.take i ++ [c] := by rw [List.take_succ, hz]; rfl
        have hL : (natL (s.walk k (row.take i)))[(row.take i).length]? = some (.int (s.fin k (row.take i) : Nat)) := by
          unfold natL
          rw [List.getElem?_map, walk_last]; rfl
        have hlen : (natL (s.walk k (row.take i))).length = (row.take i).length + 1 := by rw [natL_len, Sc.walk_len]
        refine wss_cons ?_
        refine dl_append (by assumption) (by array_get_dec) (by array_get_dec) (by with_unfolding_all rfl) (by with_unfolding_all exact fun h1 h2 => pe_bm PySem.F.plainAttrs_list PySem.F.slot_list_append PySem.F.type_list_append mt_append h1 h2) (by with_unfolding_all rfl) (by with_unfolding_all rfl) ?_ ?_
        · rw [hlen, List.length_take]; omega
        repeat decreasing_trivial_pre_omega
        refine ⟨_, atI_last hlen hL, ?_⟩
        repeat decreasing_trivial_pre_omega
        refine ⟨rfl, s, _, c, rfl, ho, ha, hc, ?_⟩
        refine wss_nil ⟨some (.frz (.int c)), ?_⟩
        rw [e, s.walk_snoc]
        unfold natL
        rw [List.map_append]
        with_unfolding_all rfl
    · rintro ev ⟨o4, rfl⟩
      rw [List.length_map, List.take_length]
      exact ⟨o4, rfl⟩
  · rintro ev ⟨o4, rfl⟩
    refine wss_cons ?_
    refine dl_retOwn (by assumption) (by array_get_dec) (by array_get_dec) (by with_unfolding_all rfl) ?_
    exact q
end
end My
set_option Elab.async false
set_option linter.all false
set_option maxRecDepth 100000
set_option autoImplicit false
set_option maxHeartbeats 1600000
namespace My
open PySem L2 DL
/-! ### what is reached, by numbers -/
def Pos0 (row : List Int) : Prop := ∀ c ∈ row, 0 ≤ c
theorem Pos0.snoc {row : List Int} {c : Int} (h : Pos0 row) (hc : 0 ≤ c) : Pos0 (row ++ [c]) := fun d hd => by
  rcases List.mem_append.mp hd with hd | hd
  · exact h d hd
  · rw [List.mem_singleton.mp hd]; exact hc
def lk {α : Type} : List (Nat × α) → Nat → Option α
  | [], _ => none
  | (a, x) :: m, g => if a = g then some x else lk m g
theorem lk_some {α : Type} {m : List (Nat × α)} {a b : Nat} {x y : α} (h : lk m a = some x) : lk (m ++ [(b, y)]) a = some x := by
  induction m with
  | nil => cases h
  | cons p m ih =>
    obtain ⟨c, z⟩ := p
    show (if c = a then some z else lk (m ++ [(b, y)]) a) = some x
    have h' : (if c = a then some z else lk m a) = some x := h
    by_cases e : c = a
    · rw [if_pos e] at h' ⊢; exact h'
    · rw [if_neg e] at h' ⊢; exact ih h'
theorem lk_new {α : Type} {m : List (Nat × α)} {a b : Nat} {y : α} (h : lk m a = none) : lk (m ++ [(b, y)]) a = if b = a then some y else none := by
  induction m with
  | nil => rfl
  | cons p m ih =>
    obtain ⟨c, z⟩ := p
    show (if c = a then some z else lk (m ++ [(b, y)]) a) = _
    have h' : (if c = a then some z else lk m a) = none := h
    by_cases e : c = a
    · rw [if_pos e] at h'; cases h'
    · rw [if_neg e] at h' ⊢; exact ih h'
theorem lk_mem {α : Type} {m : List (Nat × α)} {a : Nat} {x : α} (h : lk m a = some x) : (a, x) ∈ m := by
  induction m with
  | nil => cases h
  | cons p m ih =>
    obtain ⟨c, z⟩ := p
    have h' : (if c = a then some z else lk m a) = some x := h
    by_cases e : c = a
    · rw [if_pos e] at h'; cases h'; subst e; exact List.mem_cons_self ..
    · rw [if_neg e] at h'; exact List.mem_cons_of_mem _ (ih h')
theorem lk_none {α : Type} {m : List (Nat × α)} {a : Nat} (h : lk m a = none) : a ∉ m.map (·.1) := by
  induction m with
  | nil => exact fun z => nomatch z
  | cons p m ih =>
    obtain ⟨c, z⟩ := p
    have h' : (if c = a then some z else lk m a) = none := h
    by_cases e : c = a
    · rw [if_pos e] at h'; cases h'
    · rw [if_neg e] at h'
      intro q
      rcases List.mem_cons.mp (show a ∈ c :: m.map (·.1) from q) with q | q
      · exact e q.symm
      · exact ih h' q
theorem lk_isSome {α : Type} {m : List (Nat × α)} {a : Nat} (h : a ∈ m.map (·.1)) : ∃ x, lk m a = some x := by
  cases e : lk m a with
  | none => exact absurd h (lk_none e)
  | some x => exact ⟨x, rfl⟩
theorem lk_map {α β : Type} {f : α → β} : ∀ {m : List (Nat × α)} {a : Nat}, lk (m.map fun p => (p.1, f p.2)) a = (lk m a).map f
  | [], a => rfl
  | (c, z) :: m, a => by
    show (if c = a then some (f z) else lk (m.map fun p => (p.1, f p.2)) a) = (if c = a then some z else lk m a).map f
    by_cases e : c = a
    · rw [if_pos e, if_pos e]; rfl
    · rw [if_neg e, if_neg e]; exact lk_map
structure Fin0 (s : Sc) (k : Nat) (m : List (Nat × Nat)) : Prop where
  st : lk m k = some 0
  way : ∀ g L, lk m g = some L → ∃ row, Pos0 row ∧ row.length = L ∧ s.fin k row = g
  cl : ∀ a L, lk m a = some L → ∀ z ∈ s.mv.getD a [], ∃ L', lk m z = some L' ∧ L' ≤ L + 1
theorem go_mem {s : Sc} (ho : s.Ok) {a : Nat} {c : Int} (ha : a < s.n) (hc : 0 ≤ c) : s.go a c ∈ s.mv.getD a [] := by
  unfold Sc.go
  refine getD_mem ?_
  rw [ho.rowL ha]
  exact colOf_lt ho.w1 hc
theorem Fin0.le {s : Sc} {k : Nat} {m : List (Nat × Nat)} (h : Fin0 s k m) (ho : s.Ok) (hk : k < s.n) : ∀ (n : Nat) (row : List Int), row.length = n → Pos0 row → ∃ L, lk m (s.fin k row) = some L ∧ L ≤ n
  | 0, row, hl, _ => by
    have : row = [] := List.length_eq_zero_iff.mp hl
    subst this
    exact ⟨0, h.st, Nat.le_refl _⟩
  | n + 1, row, hl, hp => by
    rcases List.eq_nil_or_concat row with rfl | ⟨r, c, rfl⟩
    · cases hl
    · rw [List.concat_eq_append] at hl hp ⊢
      have hl' : r.length = n := by rw [List.length_append] at hl; simpa using hl
      have hp' : Pos0 r := fun d hd => hp d (List.mem_append_left _ hd)
      have hc : 0 ≤ c := hp c (List.mem_append_right _ (List.mem_singleton.mpr rfl))
      obtain ⟨L, h1, h2⟩ := h.le ho hk n r hl' hp'
      rw [s.fin_snoc]
      obtain ⟨L', h3, h4⟩ := h.cl _ _ h1 _ (go_mem ho (ho.fin_lt r k hk hp') hc)
      exact ⟨L', h3, by omega⟩
theorem Fin0.eq {s : Sc} {k : Nat} {m1 m2 : List (Nat × Nat)} (h1 : Fin0 s k m1) (h2 : Fin0 s k m2) (ho : s.Ok) (hk : k < s.n) (g : Nat) : lk m1 g = lk m2 g := by
  cases e1 : lk m1 g with
  | none =>
    cases e2 : lk m2 g with
    | none => rfl
    | some L =>
      obtain ⟨row, hp, hl, rfl⟩ := h2.way g L e2
      obtain ⟨L', h, _⟩ := h1.le ho hk _ row rfl hp
      rw [e1] at h; cases h
  | some L =>
    obtain ⟨row, hp, hl, rfl⟩ := h1.way g L e1
    obtain ⟨L', h, hle⟩ := h2.le ho hk _ row rfl hp
    obtain ⟨row', hp', hl', he⟩ := h2.way _ L' h
    obtain ⟨L'', h', hle'⟩ := h1.le ho hk _ row' rfl hp'
    rw [he, e1] at h'
    cases h'
    rw [h]
    exact congrArg some (by omega)
/-- a set of classes, closed -/
structure Clo (s : Sc) (k : Nat) (l : List Nat) : Prop where
  st : k ∈ l
  way : ∀ g ∈ l, ∃ row, Pos0 row ∧ s.fin k row = g
  cl : ∀ a ∈ l, ∀ z ∈ s.mv.getD a [], z ∈ l
theorem Clo.all {s : Sc} {k : Nat} {l : List Nat} (h : Clo s k l) (ho : s.Ok) (hk : k < s.n) : ∀ (n : Nat) (row : List Int), row.length = n → Pos0 row → s.fin k row ∈ l
  | 0, row, hl, _ => by
    have : row = [] := List.length_eq_zero_iff.mp hl
    subst this
    exact h.st
  | n + 1, row, hl, hp => by
    rcases List.eq_nil_or_concat row with rfl | ⟨r, c, rfl⟩
    · cases hl
    · rw [List.concat_eq_append] at hl hp ⊢
      have hl' : r.length = n := by rw [List.length_append] at hl; simpa using hl
      have hp' : Pos0 r := fun d hd => hp d (List.mem_append_left _ hd)
      have hc : 0 ≤ c := hp c (List.mem_append_right _ (List.mem_singleton.mpr rfl))
      rw [s.fin_snoc]
      exact h.cl _ (h.all ho hk n r hl' hp') _ (go_mem ho (ho.fin_lt r k hk hp') hc)
theorem Fin0.clo {s : Sc} {k : Nat} {m : List (Nat × Nat)} (h : Fin0 s k m) : Clo s k (m.map (·.1)) := by
  have mem : ∀ {g L}, lk m g = some L → g ∈ m.map (·.1) := fun h => List.mem_map.mpr ⟨_, lk_mem h, rfl⟩
  refine ⟨mem h.st, fun g hg => ?_, fun a ha z hz => ?_⟩
  · obtain ⟨L, e⟩ := lk_isSome hg
    obtain ⟨row, hp, _, hf⟩ := h.way g L e
    exact ⟨row, hp, hf⟩
  · obtain ⟨L, e⟩ := lk_isSome ha
    obtain ⟨L', e', _⟩ := h.cl a L e z hz
    exact mem e'
theorem Clo.iff {s : Sc} {k : Nat} {l1 l2 : List Nat} (h1 : Clo s k l1) (h2 : Clo s k l2) (ho : s.Ok) (hk : k < s.n) (g : Nat) : g ∈ l1 ↔ g ∈ l2 := by
  constructor
  · intro h; obtain ⟨row, hp, rfl⟩ := h1.way g h; exact h2.all ho hk _ row rfl hp
  · intro h; obtain ⟨row, hp, rfl⟩ := h2.way g h; exact h1.all ho hk _ row rfl hp
theorem ssort_ext : ∀ {l1 l2 : List Int}, l1.Pairwise (· < ·) → l2.Pairwise (· < ·) → (∀ x, x ∈ l1 ↔ x ∈ l2) → l1 = l2
  | [], [], _, _, _ => rfl
  | [], b :: l2, _, _, h => absurd ((h b).mpr (List.mem_cons_self ..)) (fun z => nomatch z)
  | a :: l1, [], _, _, h => absurd ((h a).mp (List.mem_cons_self ..)) (fun z => nomatch z)
  | a :: l1, b :: l2, p1, p2, h => by
    obtain ⟨q1, p1'⟩ := List.pairwise_cons.mp p1
    obtain ⟨q2, p2'⟩ := List.pairwise_cons.mp p2
    have hab : a = b := by
      rcases List.mem_cons.mp ((h a).mp (List.mem_cons_self ..)) with e | e
      · exact e
      · rcases List.mem_cons.mp ((h b).mpr (List.mem_cons_self ..)) with e' | e'
        · exact e'.symm
        · have := q1 _ e'
          have := q2 _ e
          omega
    subst hab
    refine congrArg (a :: ·) (ssort_ext p1' p2' fun x => ?_)
    constructor
    · intro hx
      rcases List.mem_cons.mp ((h x).mp (List.mem_cons_of_mem _ hx)) with e | e
      · subst e; exact absurd (q1 _ hx) (Int.lt_irrefl _)
      · exact e
    · intro hx
      rcases List.mem_cons.mp ((h x).mpr (List.mem_cons_of_mem _ hx)) with e | e
      · subst e; exact absurd (q2 _ hx) (Int.lt_irrefl _)
      · exact e
theorem strict_of : ∀ {l : List Int}, l.Pairwise (· ≤ ·) → l.Nodup → l.Pairwise (· < ·)
  | [], _, _ => .nil
  | a :: l, h, n => by
    obtain ⟨h1, h2⟩ := List.pairwise_cons.mp h
    obtain ⟨n1, n2⟩ := List.nodup_cons.mp n
    exact List.pairwise_cons.mpr ⟨fun b hb => Int.lt_iff_le_and_ne.mpr ⟨h1 b hb, fun e => n1 (by rw [e]; exact hb)⟩, strict_of h2 n2⟩
theorem nodup_le : ∀ {n : Nat} {l : List Nat}, l.Nodup → (∀ x ∈ l, x < n) → l.length ≤ n
  | 0, l, _, h => by
    cases l with
    | nil => exact Nat.le_refl _
    | cons a l => exact absurd (h a (List.mem_cons_self ..)) (Nat.not_lt_zero _)
  | n + 1, l, hn, h => by
    have h1 : (l.filter (· ≠ n)).length ≤ n := by
      refine nodup_le (hn.sublist List.filter_sublist) fun x hx => ?_
      obtain ⟨hx1, hx2⟩ := List.mem_filter.mp hx
      have := h x hx1
      have hne : x ≠ n := by simpa using hx2
      omega
    have h2 : l.length ≤ (l.filter (· ≠ n)).length + 1 := by
      clear h h1
      induction l with
      | nil => exact Nat.zero_le _
      | cons a l ih =>
        obtain ⟨n1, n2⟩ := List.nodup_cons.mp hn
        by_cases e : a = n
        · subst e
          have : l.filter (· ≠ a) = l := List.filter_eq_self.mpr fun x hx => by
            have : x ≠ a := fun z => n1 (by rw [← z]; exact hx)
            simpa using this
          rw [List.filter_cons_of_neg (by simp), this]
          exact Nat.le_refl _
        · rw [List.filter_cons_of_pos (by simpa using e)]
          have := ih n2
          simp only [List.length_cons]
          omega
    omega
theorem nodup_natL {l : List Nat} (h : l.Nodup) : (l.map fun (z : Nat) => (z : Int)).Nodup := by
  refine List.Pairwise.map _ (fun a b hab e => hab ?_) h
  omega
/-- two sorted lists of the same classes -/
theorem sorted_same {l1 l2 : List Nat} {m1 m2 : List Int} (n1 : l1.Nodup) (n2 : l2.Nodup) (h : ∀ g, g ∈ l1 ↔ g ∈ l2) (p1 : m1.Perm (l1.map fun (z : Nat) => (z : Int))) (p2 : m2.Perm (l2.map fun (z : Nat) => (z : Int))) (s1 : m1.Pairwise (· ≤ ·)) (s2 : m2.Pairwise (· ≤ ·)) : m1 = m2 := by
  refine ssort_ext (strict_of s1 (p1.nodup_iff.mpr (nodup_natL n1))) (strict_of s2 (p2.nodup_iff.mpr (nodup_natL n2))) fun x => ?_
  rw [p1.mem_iff, p2.mem_iff, List.mem_map, List.mem_map]
  constructor
  · rintro ⟨g, hg, rfl⟩; exact ⟨g, (h g).mp hg, rfl⟩
  · rintro ⟨g, hg, rfl⟩; exact ⟨g, (h g).mpr hg, rfl⟩
end My
set_option Elab.async false
set_option linter.all false
set_option maxRecDepth 100000
set_option autoImplicit false
set_option maxHeartbeats 1600000
namespace My
open PySem L2 DL
theorem go_ix {s : Sc} (ho : s.Ok) {a c z : Nat} (ha : a < s.n) (hz : (s.mv.getD a [])[c]? = some z) : s.go a (c : Int) = z := by
  have hc : c < (s.mv.getD a []).length := (List.getElem?_eq_some_iff.mp hz).1
  have hl := ho.rowL ha
  have e : colOf s.w (c : Int) = c := by unfold colOf; omega
  unfold Sc.go
  rw [e, List.getD_eq_getElem?_getD, hz]
  rfl
theorem go_in {s : Sc} (ho : s.Ok) {a z : Nat} (ha : a < s.n) (hz : z ∈ s.mv.getD a []) : z < s.n := ho.cls _ (ho.rowD ha) _ hz
theorem snoc_get {α : Type} {m : List α} {p q : α} {j : Nat} (h : (m ++ [p])[j]? = some q) : m[j]? = some q ∨ (j = m.length ∧ q = p) := by
  rcases Nat.lt_or_ge j m.length with hj | hj
  · rw [List.getElem?_append_left hj] at h; exact .inl h
  · rw [List.getElem?_append_right hj] at h
    rcases Nat.eq_zero_or_pos (j - m.length) with e | e
    · rw [e] at h; cases h; exact .inr ⟨by omega, rfl⟩
    · rw [List.getElem?_eq_none (by simp; omega)] at h; cases h
theorem get_snoc {α : Type} {m : List α} {p q : α} {j : Nat} (h : m[j]? = some q) : (m ++ [p])[j]? = some q := by
  rw [List.getElem?_append_left (List.getElem?_eq_some_iff.mp h).1]; exact h
/-! ### a list that grows while it is walked -/
structure SI (s : Sc) (k : Nat) (l : List Nat) (i : Nat) : Prop where
  st : k ∈ l
  nd : l.Nodup
  lt : ∀ x ∈ l, x < s.n
  way : ∀ g ∈ l, ∃ row, Pos0 row ∧ s.fin k row = g
  cl : ∀ j a, j < i → l[j]? = some a → ∀ z ∈ s.mv.getD a [], z ∈ l
theorem SI.init {s : Sc} {k : Nat} (hk : k < s.n) : SI s k [k] 0 := ⟨List.mem_cons_self .., List.pairwise_singleton _ _, fun x hx => by rw [List.mem_singleton.mp hx]; exact hk, fun g hg => ⟨[], (fun c hc => nomatch hc), (List.mem_singleton.mp hg).symm⟩, fun _ _ h => absurd h (Nat.not_lt_zero _)⟩
theorem SI.add {s : Sc} {k i a c z : Nat} {l : List Nat} (h : SI s k l i) (ho : s.Ok) (hi : l[i]? = some a) (hz : (s.mv.getD a [])[c]? = some z) (hn : z ∉ l) : SI s k (l ++ [z]) i := by
  have ha := List.mem_of_getElem? hi
  have hlt : i < l.length := (List.getElem?_eq_some_iff.mp hi).1
  refine ⟨List.mem_append_left _ h.st, List.nodup_append.mpr ⟨h.nd, List.pairwise_singleton _ _, fun x hx y hy e => by rw [List.mem_singleton.mp hy] at e; subst e; exact hn hx⟩, fun x hx => ?_, fun g hg => ?_, fun j b hj hb y hy => ?_⟩
  · rcases List.mem_append.mp hx with hx | hx
    · exact h.lt x hx
    · rw [List.mem_singleton.mp hx]; exact go_in ho (h.lt a ha) (List.mem_of_getElem? hz)
  · rcases List.mem_append.mp hg with hg | hg
    · exact h.way g hg
    · obtain ⟨row, hp, hf⟩ := h.way a ha
      exact ⟨row ++ [(c : Int)], hp.snoc (Int.natCast_nonneg c), by rw [s.fin_snoc, hf, go_ix ho (h.lt a ha) hz, List.mem_singleton.mp hg]⟩
  · rcases snoc_get hb with hb | ⟨e, _⟩
    · exact List.mem_append_left _ (h.cl j b hj hb y hy)
    · omega
theorem SI.next {s : Sc} {k i a : Nat} {l : List Nat} (h : SI s k l i) (hi : l[i]? = some a) (hc : ∀ z ∈ s.mv.getD a [], z ∈ l) : SI s k l (i + 1) := by
  refine ⟨h.st, h.nd, h.lt, h.way, fun j b hj hb y hy => ?_⟩
  rcases Nat.lt_or_ge j i with hji | hji
  · exact h.cl j b hji hb y hy
  · have : j = i := by omega
    subst this
    rw [hi] at hb
    cases hb
    exact hc y hy
theorem SI.done {s : Sc} {k i : Nat} {l : List Nat} (h : SI s k l i) (hi : l.length ≤ i) : Clo s k l := ⟨h.st, h.way, fun a ha z hz => by
  obtain ⟨j, hj⟩ := List.getElem?_of_mem ha
  exact h.cl j a (by have := (List.getElem?_eq_some_iff.mp hj).1; omega) hj z hz⟩
theorem SI.len {s : Sc} {k i : Nat} {l : List Nat} (h : SI s k l i) : l.length ≤ s.n := nodup_le h.nd h.lt
/-! ### lengths, by a queue -/
structure QI (s : Sc) (k : Nat) (m : List (Nat × Nat)) (i : Nat) : Prop where
  st : lk m k = some 0
  nd : (m.map (·.1)).Nodup
  lt : ∀ p ∈ m, p.1 < s.n
  way : ∀ p ∈ m, ∃ row, Pos0 row ∧ row.length = p.2 ∧ s.fin k row = p.1
  mono : ∀ (j j' : Nat) (p q : Nat × Nat), j ≤ j' → m[j]? = some p → m[j']? = some q → p.2 ≤ q.2
  up : ∀ p, m[i]? = some p → ∀ q ∈ m, q.2 ≤ p.2 + 1
  cl : ∀ (j : Nat) (p : Nat × Nat), j < i → m[j]? = some p → ∀ z ∈ s.mv.getD p.1 [], ∃ L', lk m z = some L' ∧ L' ≤ p.2 + 1
theorem QI.init {s : Sc} {k : Nat} (hk : k < s.n) : QI s k [(k, 0)] 0 := by
  refine ⟨if_pos rfl, List.pairwise_singleton _ _, fun p hp => by rw [List.mem_singleton.mp hp]; exact hk, fun p hp => ⟨[], (fun c hc => nomatch hc), by rw [List.mem_singleton.mp hp]; rfl, by rw [List.mem_singleton.mp hp]; rfl⟩, fun j j' p q _ hp hq => ?_, fun p hp q hq => ?_, fun _ _ h => absurd h (Nat.not_lt_zero _)⟩
  · rw [List.mem_singleton.mp (List.mem_of_getElem? hp)]; exact Nat.zero_le _
  · rw [List.mem_singleton.mp hq]; exact Nat.zero_le _
theorem QI.add {s : Sc} {k i a L c z : Nat} {m : List (Nat × Nat)} (h : QI s k m i) (ho : s.Ok) (hi : m[i]? = some (a, L)) (hz : (s.mv.getD a [])[c]? = some z) (hn : lk m z = none) : QI s k (m ++ [(z, L + 1)]) i := by
  have ha := List.mem_of_getElem? hi
  have hlt : i < m.length := (List.getElem?_eq_some_iff.mp hi).1
  have hal : a < s.n := h.lt _ ha
  refine ⟨lk_some h.st, ?_, fun p hp => ?_, fun p hp => ?_, fun j j' p q hjj hp hq => ?_, fun p hp q hq => ?_, fun j p hj hp y hy => ?_⟩
  · rw [List.map_append]
    exact List.nodup_append.mpr ⟨h.nd, List.pairwise_singleton _ _, fun x hx y hy e => by rw [List.mem_singleton.mp hy] at e; subst e; exact lk_none hn hx⟩
  · rcases List.mem_append.mp hp with hp | hp
    · exact h.lt p hp
    · rw [List.mem_singleton.mp hp]; exact go_in ho hal (List.mem_of_getElem? hz)
  · rcases List.mem_append.mp hp with hp | hp
    · exact h.way p hp
    · obtain ⟨row, hp', hl, hf⟩ := h.way _ ha
      rw [List.mem_singleton.mp hp]
      refine ⟨row ++ [(c : Int)], hp'.snoc (Int.natCast_nonneg c), ?_, ?_⟩
      · rw [List.length_append, hl]; rfl
      · rw [s.fin_snoc, hf]; exact go_ix ho hal hz
  · rcases snoc_get hq with hq | ⟨e, rfl⟩
    · rcases snoc_get hp with hp | ⟨e', rfl⟩
      · exact h.mono j j' p q hjj hp hq
      · have := (List.getElem?_eq_some_iff.mp hq).1; omega
    · rcases snoc_get hp with hp | ⟨e', rfl⟩
      · exact h.up _ hi p (List.mem_of_getElem? hp)
      · exact Nat.le_refl _
  · rw [get_snoc hi] at hp
    cases hp
    rcases List.mem_append.mp hq with hq | hq
    · exact h.up _ hi q hq
    · rw [List.mem_singleton.mp hq]; exact Nat.le_refl _
  · rcases snoc_get hp with hp | ⟨e, _⟩
    · obtain ⟨L', h1, h2⟩ := h.cl j p hj hp y hy
      exact ⟨L', lk_some h1, h2⟩
    · omega
theorem QI.next {s : Sc} {k i a L : Nat} {m : List (Nat × Nat)} (h : QI s k m i) (hi : m[i]? = some (a, L)) (hc : ∀ z ∈ s.mv.getD a [], ∃ L', lk m z = some L' ∧ L' ≤ L + 1) : QI s k m (i + 1) := by
  refine ⟨h.st, h.nd, h.lt, h.way, h.mono, fun p hp q hq => ?_, fun j p hj hp y hy => ?_⟩
  · have h1 := h.up _ hi q hq
    have h2 := h.mono i (i + 1) _ _ (Nat.le_succ i) hi hp
    show q.2 ≤ p.2 + 1
    have h1' : q.2 ≤ L + 1 := h1
    have h2' : L ≤ p.2 := h2
    omega
  · rcases Nat.lt_or_ge j i with hji | hji
    · exact h.cl j p hji hp y hy
    · have : j = i := by omega
      subst this
      rw [hi] at hp
      cases hp
      exact hc y hy
theorem QI.done {s : Sc} {k i : Nat} {m : List (Nat × Nat)} (h : QI s k m i) (hi : m.length ≤ i) : Fin0 s k m := by
  refine ⟨h.st, fun g L e => h.way _ (lk_mem e), fun a L e z hz => ?_⟩
  obtain ⟨j, hj⟩ := List.getElem?_of_mem (lk_mem e)
  exact h.cl j _ (by have := (List.getElem?_eq_some_iff.mp hj).1; omega) hj z hz
theorem QI.len {s : Sc} {k i : Nat} {m : List (Nat × Nat)} (h : QI s k m i) : m.length ≤ s.n := by
  have := nodup_le h.nd (fun x hx => by obtain ⟨p, hp, rfl⟩ := List.mem_map.mp hx; exact h.lt p hp)
  rwa [List.length_map] at this
/-! ### rows, layer by layer -/
structure LM (s : Sc) (k : Nat) (kr : List (Nat × List Int)) (rest fu : List Nat) (j l0 : Nat) : Prop where
  st : lk kr k = some []
  nd : (kr.map (·.1)).Nodup
  lt : ∀ p ∈ kr, p.1 < s.n
  way : ∀ p ∈ kr, Pos0 p.2 ∧ s.fin k p.2 = p.1 ∧ p.2.length ≤ j + 1
  ly : ∀ a ∈ rest, ∃ r, lk kr a = some r ∧ r.length = j
  fur : ∀ a ∈ fu, ∃ r, lk kr a = some r ∧ r.length = j + 1
  cl : ∀ a r, lk kr a = some r → a ∈ rest ∨ a ∈ fu ∨ ∀ z ∈ s.mv.getD a [], ∃ r', lk kr z = some r' ∧ r'.length ≤ r.length + 1
  len : kr.length = l0 + fu.length
theorem LM.add {s : Sc} {k j l0 a c z : Nat} {kr : List (Nat × List Int)} {rest fu : List Nat} {r : List Int} (h : LM s k kr rest fu j l0) (ho : s.Ok) (ha : lk kr a = some r) (hr : r.length = j) (hz : (s.mv.getD a [])[c]? = some z) (hn : lk kr z = none) : LM s k (kr ++ [(z, r ++ [(c : Int)])]) rest (fu ++ [z]) j l0 := by
  have hm := lk_mem ha
  have hal : a < s.n := h.lt _ hm
  obtain ⟨w1, w2, w3⟩ := h.way _ hm
  have hrl : (r ++ [(c : Int)]).length = j + 1 := by rw [List.length_append, hr]; rfl
  have hnew : lk (kr ++ [(z, r ++ [(c : Int)])]) z = some (r ++ [(c : Int)]) := (lk_new hn).trans (if_pos rfl)
  refine ⟨lk_some h.st, ?_, fun p hp => ?_, fun p hp => ?_, fun b hb => ?_, fun b hb => ?_, fun b r' hb => ?_, ?_⟩
  · rw [List.map_append]
    exact List.nodup_append.mpr ⟨h.nd, List.pairwise_singleton _ _, fun x hx y hy e => by rw [List.mem_singleton.mp hy] at e; subst e; exact lk_none hn hx⟩
  · rcases List.mem_append.mp hp with hp | hp
    · exact h.lt p hp
    · rw [List.mem_singleton.mp hp]; exact go_in ho hal (List.mem_of_getElem? hz)
  · rcases List.mem_append.mp hp with hp | hp
    · exact h.way p hp
    · rw [List.mem_singleton.mp hp]
      refine ⟨Pos0.snoc w1 (Int.natCast_nonneg c), ?_, Nat.le_of_eq hrl⟩
      show s.fin k (r ++ [(c : Int)]) = z
      rw [s.fin_snoc, show s.fin k r = a from w2]; exact go_ix ho hal hz
  · obtain ⟨r', h1, h2⟩ := h.ly b hb
    exact ⟨r', lk_some h1, h2⟩
  · rcases List.mem_append.mp hb with hb | hb
    · obtain ⟨r', h1, h2⟩ := h.fur b hb
      exact ⟨r', lk_some h1, h2⟩
    · rw [List.mem_singleton.mp hb]; exact ⟨_, hnew, hrl⟩
  · cases e : lk kr b with
    | none =>
      rw [lk_new e] at hb
      by_cases hzb : z = b
      · exact .inr (.inl (by rw [← hzb]; exact List.mem_append_right _ (List.mem_singleton.mpr rfl)))
      · rw [if_neg hzb] at hb; cases hb
    | some r'' =>
      have := lk_some (b := z) (y := r ++ [(c : Int)]) e
      rw [this] at hb
      cases hb
      rcases h.cl b r' e with q | q | q
      · exact .inl q
      · exact .inr (.inl (List.mem_append_left _ q))
      · refine .inr (.inr fun y hy => ?_)
        obtain ⟨r3, h1, h2⟩ := q y hy
        exact ⟨r3, lk_some h1, h2⟩
  · rw [List.length_append, List.length_append, h.len]; simp only [List.length_singleton]; omega
theorem LM.known {s : Sc} {k j l0 z : Nat} {kr : List (Nat × List Int)} {rest fu : List Nat} {r : List Int} (h : LM s k kr rest fu j l0) (hz : lk kr z = some r) : r.length ≤ j + 1 := (h.way _ (lk_mem hz)).2.2
theorem LM.next {s : Sc} {k j l0 a : Nat} {kr : List (Nat × List Int)} {rest fu : List Nat} (h : LM s k kr (a :: rest) fu j l0) (hc : ∀ z ∈ s.mv.getD a [], ∃ r', lk kr z = some r' ∧ r'.length ≤ j + 1) : LM s k kr rest fu j l0 := by
  obtain ⟨ra, ha, hra⟩ := h.ly a (List.mem_cons_self ..)
  refine ⟨h.st, h.nd, h.lt, h.way, fun b hb => h.ly b (List.mem_cons_of_mem _ hb), h.fur, fun b r hb => ?_, h.len⟩
  rcases h.cl b r hb with q | q | q
  · rcases List.mem_cons.mp q with rfl | q
    · rw [ha] at hb
      cases hb
      refine .inr (.inr fun z hz => ?_)
      obtain ⟨r', h1, h2⟩ := hc z hz
      exact ⟨r', h1, by omega⟩
    · exact .inl q
  · exact .inr (.inl q)
  · exact .inr (.inr q)
theorem LM.len_le {s : Sc} {k j l0 : Nat} {kr : List (Nat × List Int)} {rest fu : List Nat} (h : LM s k kr rest fu j l0) : kr.length ≤ s.n := by
  have := nodup_le h.nd (fun x hx => by obtain ⟨p, hp, rfl⟩ := List.mem_map.mp hx; exact h.lt p hp)
  rwa [List.length_map] at this
/-- the next layer -/
theorem LM.turn {s : Sc} {k j l0 : Nat} {kr : List (Nat × List Int)} {fu : List Nat} (h : LM s k kr [] fu j l0) : LM s k kr fu [] (j + 1) kr.length := by
  refine ⟨h.st, h.nd, h.lt, fun p hp => ?_, h.fur, (fun a ha => nomatch ha), fun b r hb => ?_, rfl⟩
  · obtain ⟨h1, h2, h3⟩ := h.way p hp
    exact ⟨h1, h2, by omega⟩
  · rcases h.cl b r hb with q | q | q
    · cases q
    · exact .inl q
    · exact .inr (.inr q)
theorem LM.init {s : Sc} {k : Nat} (hk : k < s.n) : LM s k [(k, [])] [k] [] 0 1 := by
  refine ⟨if_pos rfl, List.pairwise_singleton _ _, fun p hp => by rw [List.mem_singleton.mp hp]; exact hk, fun p hp => ?_, fun a ha => ?_, (fun a ha => nomatch ha), fun b r hb => ?_, rfl⟩
  · rw [List.mem_singleton.mp hp]; exact ⟨(fun c hc => nomatch hc), rfl, Nat.zero_le _⟩
  · rw [List.mem_singleton.mp ha]; exact ⟨[], if_pos rfl, rfl⟩
  · have hm := lk_mem hb
    have := List.mem_singleton.mp hm
    cases this
    exact .inl (List.mem_cons_self ..)
theorem LM.done {s : Sc} {k j l0 : Nat} {kr : List (Nat × List Int)} (h : LM s k kr [] [] j l0) : Fin0 s k (kr.map fun p => (p.1, p.2.length)) := by
  refine ⟨?_, fun g L e => ?_, fun a L e z hz => ?_⟩
  · rw [lk_map (f := List.length), h.st]; rfl
  · rw [lk_map (f := List.length)] at e
    cases e2 : lk kr g with
    | none => rw [e2] at e; cases e
    | some r =>
      rw [e2] at e
      cases e
      obtain ⟨h1, h2, _⟩ := h.way _ (lk_mem e2)
      exact ⟨r, h1, rfl, h2⟩
  · rw [lk_map (f := List.length)] at e
    cases e2 : lk kr a with
    | none => rw [e2] at e; cases e
    | some r =>
      rw [e2] at e
      cases e
      rcases h.cl a r e2 with q | q | q
      · cases q
      · cases q
      · obtain ⟨r', h1, h2⟩ := q z hz
        exact ⟨r'.length, by rw [lk_map (f := List.length), h1]; rfl, h2⟩
end My
set_option Elab.async false
set_option linter.all false
set_option maxRecDepth 100000
set_option autoImplicit false
set_option pp.deepTerms false
set_option pp.deepTerms.threshold 7
set_option pp.maxSteps 1500
set_option maxHeartbeats 1600000
namespace My
open PySem L2 DL
/-- a place in a list of names -/
local macro_rules | `(tactic| array_get_dec) => `(tactic| repeat (first | exact At.z | apply At.s))
/-- one step -/
local macro_rules | `(tactic| decreasing_trivial_pre_omega) => `(tactic| with_reducible first
  | (refine we_int ?_)
  | (refine we_bl ?_)
  | (refine we_non ?_)
  | (refine we_str ?_)
  | (refine dl_name (by assumption) (by array_get_dec) (by array_get_dec) (by with_unfolding_all rfl) ?_)
  | (refine dl_ixOwn (by assumption) (by array_get_dec) (by array_get_dec) (by with_unfolding_all rfl) (by with_unfolding_all exact fun _ _ => rfl) ?_)
  | (refine we_ix (by with_unfolding_all exact fun _ _ => rfl) ?_)
  | (refine WL.we (wl_cat (b := .List _ _) ?_))
  | (refine we_add ?_)
  | (refine we_sub ?_)
  | (refine WL.we (wl_rep (a := .List _ _) ?_)) | (refine wl_rep (a := .List _ _) ?_)
  | (refine we_muls ?_)
  | (refine we_neg ?_)
  | (refine we_mod ?_)
  | (refine we_fdiv ?_)
  | (refine we_pow ?_)
  | (refine we_lt ?_) | (refine we_le ?_) | (refine we_gt ?_) | (refine we_ge ?_)
  | (refine we_lele (by with_unfolding_all rfl) ?_) | (refine wt_lele (by with_unfolding_all rfl) ?_)
  | (refine wt_lt ?_) | (refine wt_le ?_) | (refine wt_gt ?_) | (refine wt_ge ?_) | (refine wt_eqI ?_)
  | (refine wt_neI ?_) | (refine wt_isN ?_) | (refine wt_notN ?_) | (refine we_isN ?_) | (refine we_notN ?_)
  | (refine wa_nil ?_)
  | (refine wa_cons ?_ (by with_unfolding_all rfl))
  | (refine dl_len (by assumption) (by assumption) (by array_get_dec) (by array_get_dec) (by with_unfolding_all rfl) ?_)
  | (refine dl_abs (by assumption) (by assumption) (by array_get_dec) (by array_get_dec) (by with_unfolding_all rfl) ?_)
  | (refine dl_int (by assumption) (by assumption) (by array_get_dec) (by array_get_dec) (by with_unfolding_all rfl) ?_)
  | (refine dl_min (by assumption) (by assumption) (by array_get_dec) (by array_get_dec) (by with_unfolding_all rfl) (by with_unfolding_all rfl) ?_)
  | (refine dl_max (by assumption) (by assumption) (by array_get_dec) (by array_get_dec) (by with_unfolding_all rfl) (by with_unfolding_all rfl) ?_)
  | (refine dl_isi (by assumption) (by assumption) (by array_get_dec) (by array_get_dec) (by with_unfolding_all rfl) (by with_unfolding_all rfl) ?_)
  | (refine dl_all (by assumption) (by assumption) (by array_get_dec) (by array_get_dec) (by with_unfolding_all rfl) ?_)
  | (refine dl_list (by assumption) (by assumption) (by array_get_dec) (by array_get_dec) (by with_unfolding_all rfl) ?_)
  | (refine dl_tuple (by assumption) (by assumption) (by array_get_dec) (by array_get_dec) (by with_unfolding_all rfl) ?_)
  | (refine dl_ty (by assumption) (by assumption) boot_int (by array_get_dec) (by array_get_dec) ?_)
  | (refine dl_ty (by assumption) (by assumption) boot_bool (by array_get_dec) (by array_get_dec) ?_)
  | (refine dl_ty (by assumption) (by assumption) boot_list (by array_get_dec) (by array_get_dec) ?_)
  | (refine dl_pure (by assumption) (by assumption) (by array_get_dec) (by decide) (by with_unfolding_all rfl) (by with_unfolding_all rfl) ?_)
  | (refine dl_bag (by assumption) (by assumption) (by array_get_dec) (by decide) (by with_unfolding_all rfl) (by with_unfolding_all rfl) ?_)
  | (refine dl_glob (d := .int _) (v := .int _) (u := .int _ _) (by assumption) (by array_get_dec) (by assumption) (by with_unfolding_all exact ⟨_, rfl⟩) (by with_unfolding_all rfl) ?_)
  | (refine we_one ?_) | (refine we_eqI ?_) | (refine we_not ?_) | (refine we_and ?_) | (refine we_or ?_)
  | (refine wt_val ?_ (by with_unfolding_all exact fun _ => rfl))
  | (refine WL.we (wl_lst ?_)) | (refine WL.we (wl_slice ?_)) | (refine wl_lst ?_) | (refine wl_slice ?_) | (refine wl_cat ?_)
  | (refine wo_none ?_) | (refine wo_some ?_) | (refine we_tup ?_)
  | (refine wss_nil ?_)
  | (refine ws_ret ?_)
  | (refine ws_if ?_)
  | (refine WW.wt (ww_and ?_)) | (refine WW.wt (ww_or ?_))
  | (refine wt_not ?_)
  | (refine ww_and ?_) | (refine ww_or ?_) | (refine ww_and1 ?_) | (refine ww_or1 ?_)
  | (refine dl_set (by assumption) (by array_get_dec) (by array_get_dec) (by with_unfolding_all rfl) ?_)
  | (refine dl_setIx (by assumption) (by array_get_dec) (by array_get_dec) (by with_unfolding_all rfl) (by with_unfolding_all exact fun _ => rfl) (by with_unfolding_all rfl) (by with_unfolding_all rfl) (by with_unfolding_all rfl) ?_)
  | (refine ite_t ?_) | (refine ite_f ?_)
  | (refine ⟨(by simp : List.length _ ≤ 1000000), ?_⟩)
  | (with_unfolding_all refine ⟨_, rfl, ?_⟩))


def ksOf {α : Type} (m : List (Nat × α)) : List Key := m.map fun q => Sum.inl (q.1 : Int)
def xsOf (m : List (Nat × Nat)) : List D := m.map fun q => D.int (q.2 : Int)
theorem dget_ks {α : Type} (f : α → D) (g : Nat) : ∀ {m : List (Nat × α)}, dget (ksOf m) (m.map fun q => f q.2) (.inl (g : Int)) = (lk m g).map f
  | [] => rfl
  | (a, x) :: m => by
    show (if (Sum.inl (a : Int) : Key) = .inl (g : Int) then some (f x) else dget (ksOf m) (m.map fun q => f q.2) (.inl (g : Int))) = (if a = g then some x else lk m g).map f
    by_cases e : a = g
    · subst e; rw [if_pos rfl, if_pos rfl]; rfl
    · rw [if_neg (fun z => e (by have := Sum.inl.inj z; omega)), if_neg e]; exact dget_ks f g
theorem er_xs : ∀ m : List (Nat × Nat), D.erAll (xsOf m) = xsOf m
  | [] => rfl
  | (a, x) :: m => by show D.int x :: D.erAll (xsOf m) = _; rw [er_xs m]; rfl
theorem any_int {l : List Nat} {g : Nat} : ((natL l).any fun z => z.eq (.int (g : Int))) = decide (g ∈ l) := by
  induction l with
  | nil => rfl
  | cons a l ih =>
    show ((D.int (a : Int)).eq (.int (g : Int)) || (natL l).any _) = _
    rw [ih]
    have e : (D.int (a : Int)).eq (.int (g : Int)) = decide (g = a) := by
      show PyData.eqv (.int (a : Int)) (.int (g : Int)) = _
      simp only [PyData.eqv]
      by_cases h : g = a
      · subst h; simp
      · have : ¬ (a : Int) = (g : Int) := fun z => h (by omega)
        simp [h, this]
    rw [e]
    simp [List.mem_cons, Bool.decide_or]
theorem natL_ok {r : List Nat} : (D.lst (natL r)).ok 64 = true := by rw [natL_eq]; exact ok_lst
theorem natL_flats : ∀ {r : List Nat}, Flats (natL r) := fun {r} => by
  rw [natL_eq]
  exact flats_ints
theorem take_snoc {α : Type} {l : List α} {c : Nat} {x z : α} (h : l[c]? = some x) (hz : z ∈ l.take (c + 1)) : z ∈ l.take c ∨ z = x := by
  rw [List.take_succ, h] at hz
  rcases List.mem_append.mp hz with hz | hz
  · exact .inl hz
  · exact .inr (List.mem_singleton.mp hz)
theorem natL_get {l : List Nat} {i a : Nat} (h : l[i]? = some a) : (natL l)[i]? = some (.int (a : Nat)) := by unfold natL; rw [List.getElem?_map, h]; rfl
theorem natL_snoc {l : List Nat} {z : Nat} : natL l ++ [D.int (z : Nat)] = natL (l ++ [z]) := by unfold natL; rw [List.map_append]; rfl
def A_lreached (ds : List D) (P : D → Prop) : Prop := ∃ (s : Sc) (k : Nat), ds = [s.plain, .int k] ∧ s.Ok ∧ k < s.n ∧ ∀ (l : List Nat) (ms : List Int), Clo s k l → l.Nodup → ms.Perm (l.map fun (z : Nat) => (z : Int)) → ms.Pairwise (· ≤ ·) → P (.lst (ms.map .int))
section
variable {P : Program} {w : World} {K : PySem.W.Frag} {mg : Str → Option Value} {base : Heap} {f : Addr} {fd : FuncData} {C : Addr}
theorem ok_lreached (F : Fun K "_law_reached" "_law_reached" s_l_reached f fd) (bn : NoMg mg BI) : FnOk P w K mg base (L2.CX P w) 1 f fd P_l_reached (spD K none 2 A_lreached) := by
  refine Fun.okD2 (Vn := V_l_reached) (L := L_l_reached) (G := G_l_reached) F sc_l_reached v_l_reached l_l_reached g_l_reached fun X ds Q dx hl hA => ?_
  obtain ⟨s, k, rfl, ho, hk, q⟩ := hA
  have hun := dx.room.un
  have hn12 := ho.n2
  refine wss_cons ?_
  refine dl_setL (by assumption) (by array_get_dec) (by array_get_dec) (by with_unfolding_all rfl) ?_
  repeat decreasing_trivial_pre_omega
  intro p
  refine wss_cons ?_
  repeat decreasing_trivial_pre_omega
  let E (l : List Nat) (i : Nat) (o4 : Option Slot) : Ev := [some (.frz s.plain), some (.frz (.int k)), some (.own p (.lst (natL l))), some (.frz (.int i)), o4]
  refine wss_cut (fun ev => ∃ (l : List Nat) (i : Nat) (o4 : Option Slot), SI s k l i ∧ l.length ≤ i ∧ ev = E l i o4) ?_ ?_
  · refine dl_while dx (fun n ev => ∃ (l : List Nat) (i : Nat) (o4 : Option Slot), SI s k l i ∧ n = s.n - i ∧ ev = E l i o4) _ ⟨[k], 0, none, SI.init hk, rfl, by with_unfolding_all rfl⟩ ?_
    rintro n ev ⟨l, i, o4, hS, rfl, rfl⟩
    have hll := hS.len
    refine wt_lt ?_
    refine dl_name (by assumption) (by array_get_dec) (by array_get_dec) (by with_unfolding_all rfl) ?_
    refine dl_lenOwn (by assumption) (by assumption) (by array_get_dec) (by array_get_dec) (by array_get_dec) (by array_get_dec) (by with_unfolding_all rfl) ?_
    refine ite_d (fun hlt => ?_) (fun hlt => ⟨l, i, o4, hS, by rw [natL_len] at hlt; omega, rfl⟩)
    rw [natL_len] at hlt
    have hi : i < l.length := by omega
    obtain ⟨a, ha⟩ : ∃ a, l[i]? = some a := ⟨_, List.getElem?_eq_getElem hi⟩
    have hal : a < s.n := hS.lt a (List.mem_of_getElem? ha)
    refine wss_cut (fun ev => ∃ (l' : List Nat) (o4 : Option Slot), SI s k l' (i + 1) ∧ ev = E l' i o4) ?_ ?_
    · refine dl_forL 4 (by assumption) (by array_get_dec) (by array_get_dec) (by with_unfolding_all exact fun _ => rfl) ?_
      repeat decreasing_trivial_pre_omega
      refine ⟨_, atI_nat (natL_get ha), _, atI_nat (ho.tab_at hal), ?_⟩
      refine ⟨fun c ev => ∃ (l' : List Nat) (o4 : Option Slot), SI s k l' i ∧ l'[i]? = some a ∧ (∀ z ∈ (s.mv.getD a []).take c, z ∈ l') ∧ ev = E l' i o4, ⟨l, o4, hS, ha, (fun z hz => nomatch hz), rfl⟩, ?_, ?_⟩
      · rintro c d ev hc ⟨l', o4, hS', ha', hcl, rfl⟩
        unfold natL at hc
        rw [List.getElem?_map] at hc
        cases hz : (s.mv.getD a [])[c]? with
        | none => rw [hz] at hc; cases hc
        | some z =>
          rw [hz] at hc
          cases hc
          have hll' := hS'.len
          refine wss_cons ?_
          refine ws_if (wt_lend 2 (by with_unfolding_all rfl) (wt_notInL (by omega) rfl ?_))
          repeat decreasing_trivial_pre_omega
          refine ⟨rfl, natL_ok, ?_⟩
          rw [any_int]
          by_cases hm : z ∈ l'
          · rw [decide_eq_true hm]
            refine ite_f (wss_nil (wss_nil ⟨l', some (.frz (.int z)), hS', ha', fun y hy => ?_, by with_unfolding_all rfl⟩))
            rcases take_snoc hz hy with hy | rfl
            · exact hcl y hy
            · exact hm
          · rw [decide_eq_false hm]
            refine ite_t (wss_cons ?_)
            refine dl_append (by assumption) (by array_get_dec) (by array_get_dec) (by with_unfolding_all rfl) (by with_unfolding_all exact fun h1 h2 => pe_bm PySem.F.plainAttrs_list PySem.F.slot_list_append PySem.F.type_list_append mt_append h1 h2) (by with_unfolding_all rfl) (by with_unfolding_all rfl) ?_ ?_
            · rw [natL_len]; omega
            repeat decreasing_trivial_pre_omega
            refine ⟨l' ++ [z], some (.frz (.int z)), hS'.add ho ha' hz hm, get_snoc ha', fun y hy => ?_, ?_⟩
            rotate_left
            · show _ = E (l' ++ [z]) i (some (.frz (.int z)))
              show _ = [some (DL.Slot.frz s.plain), some (.frz (.int k)), some (.own p (.lst (natL (l' ++ [z])))), some (.frz (.int i)), some (.frz (.int z))]
              rw [← natL_snoc]
              with_unfolding_all rfl
            rcases take_snoc hz hy with hy | rfl
            · exact List.mem_append_left _ (hcl y hy)
            · exact List.mem_append_right _ (List.mem_singleton.mpr rfl)
      · rintro ev ⟨l', o4, hS', ha', hcl, rfl⟩
        rw [natL_len, List.take_length] at hcl
        exact ⟨l', o4, hS'.next ha' hcl, rfl⟩
    · rintro ev ⟨l', o4, hS', rfl⟩
      refine wss_cons ?_
      repeat decreasing_trivial_pre_omega
      refine ⟨s.n - (i + 1), by omega, l', i + 1, o4, hS', rfl, by with_unfolding_all rfl⟩
  · rintro ev ⟨l, i, o4, hS, hi, rfl⟩
    refine wss_cons ?_
    refine ws_ret (WL.we (WL.mono (P := fun es => ∃ ms : List Int, es = ms.map .int ∧ ms.Perm (l.map fun (z : Nat) => (z : Int)) ∧ ms.Pairwise (· ≤ ·)) (wl_lend 2 (by with_unfolding_all rfl) (fun es h => by obtain ⟨ms, rfl, _⟩ := h; exact flats_ints) ?_) ?_))
    · refine dl_sorted (by assumption) (by assumption) (by array_get_dec) (by array_get_dec) (by with_unfolding_all rfl) ?_
      repeat decreasing_trivial_pre_omega
      refine ⟨_, by rw [natL_eq], fun ms h1 h2 => ⟨ms, rfl, h1, h2⟩⟩
    · rintro es ⟨ms, rfl, h1, h2⟩
      exact q l ms (hS.done hi) hS.nd h1 h2
end
end My
set_option Elab.async false
set_option linter.all false
set_option maxRecDepth 100000
set_option autoImplicit false
set_option pp.deepTerms false
set_option pp.deepTerms.threshold 7
set_option pp.maxSteps 1500
set_option maxHeartbeats 1600000
namespace My
open PySem L2 DL
/-- a place in a list of names -/
local macro_rules | `(tactic| array_get_dec) => `(tactic| repeat (first | exact At.z | apply At.s))
/-- one step -/
local macro_rules | `(tactic| decreasing_trivial_pre_omega) => `(tactic| with_reducible first
  | (refine we_int ?_)
  | (refine we_bl ?_)
  | (refine we_non ?_)
  | (refine we_str ?_)
  | (refine dl_name (by assumption) (by array_get_dec) (by array_get_dec) (by with_unfolding_all rfl) ?_)
  | (refine dl_ixOwn (by assumption) (by array_get_dec) (by array_get_dec) (by with_unfolding_all rfl) (by with_unfolding_all exact fun _ _ => rfl) ?_)
  | (refine we_ix (by with_unfolding_all exact fun _ _ => rfl) ?_)
  | (refine WL.we (wl_cat (b := .List _ _) ?_))
  | (refine we_add ?_)
  | (refine we_sub ?_)
  | (refine WL.we (wl_rep (a := .List _ _) ?_)) | (refine wl_rep (a := .List _ _) ?_)
  | (refine we_muls ?_)
  | (refine we_neg ?_)
  | (refine we_mod ?_)
  | (refine we_fdiv ?_)
  | (refine we_pow ?_)
  | (refine we_lt ?_) | (refine we_le ?_) | (refine we_gt ?_) | (refine we_ge ?_)
  | (refine we_lele (by with_unfolding_all rfl) ?_) | (refine wt_lele (by with_unfolding_all rfl) ?_)
  | (refine wt_lt ?_) | (refine wt_le ?_) | (refine wt_gt ?_) | (refine wt_ge ?_) | (refine wt_eqI ?_)
  | (refine wt_neI ?_) | (refine wt_isN ?_) | (refine wt_notN ?_) | (refine we_isN ?_) | (refine we_notN ?_)
  | (refine wa_nil ?_)
  | (refine wa_cons ?_ (by with_unfolding_all rfl))
  | (refine dl_len (by assumption) (by assumption) (by array_get_dec) (by array_get_dec) (by with_unfolding_all rfl) ?_)
  | (refine dl_abs (by assumption) (by assumption) (by array_get_dec) (by array_get_dec) (by with_unfolding_all rfl) ?_)
  | (refine dl_int (by assumption) (by assumption) (by array_get_dec) (by array_get_dec) (by with_unfolding_all rfl) ?_)
  | (refine dl_min (by assumption) (by assumption) (by array_get_dec) (by array_get_dec) (by with_unfolding_all rfl) (by with_unfolding_all rfl) ?_)
  | (refine dl_max (by assumption) (by assumption) (by array_get_dec) (by array_get_dec) (by with_unfolding_all rfl) (by with_unfolding_all rfl) ?_)
  | (refine dl_isi (by assumption) (by assumption) (by array_get_dec) (by array_get_dec) (by with_unfolding_all rfl) (by with_unfolding_all rfl) ?_)
  | (refine dl_all (by assumption) (by assumption) (by array_get_dec) (by array_get_dec) (by with_unfolding_all rfl) ?_)
  | (refine dl_list (by assumption) (by assumption) (by array_get_dec) (by array_get_dec) (by with_unfolding_all rfl) ?_)
  | (refine dl_tuple (by assumption) (by assumption) (by array_get_dec) (by array_get_dec) (by with_unfolding_all rfl) ?_)
  | (refine dl_ty (by assumption) (by assumption) boot_int (by array_get_dec) (by array_get_dec) ?_)
  | (refine dl_ty (by assumption) (by assumption) boot_bool (by array_get_dec) (by array_get_dec) ?_)
  | (refine dl_ty (by assumption) (by assumption) boot_list (by array_get_dec) (by array_get_dec) ?_)
  | (refine dl_pure (by assumption) (by assumption) (by array_get_dec) (by decide) (by with_unfolding_all rfl) (by with_unfolding_all rfl) ?_)
  | (refine dl_bag (by assumption) (by assumption) (by array_get_dec) (by decide) (by with_unfolding_all rfl) (by with_unfolding_all rfl) ?_)
  | (refine dl_glob (d := .int _) (v := .int _) (u := .int _ _) (by assumption) (by array_get_dec) (by assumption) (by with_unfolding_all exact ⟨_, rfl⟩) (by with_unfolding_all rfl) ?_)
  | (refine we_one ?_) | (refine we_eqI ?_) | (refine we_not ?_) | (refine we_and ?_) | (refine we_or ?_)
  | (refine wt_val ?_ (by with_unfolding_all exact fun _ => rfl))
  | (refine WL.we (wl_lst ?_)) | (refine WL.we (wl_slice ?_)) | (refine wl_lst ?_) | (refine wl_slice ?_) | (refine wl_cat ?_)
  | (refine wo_none ?_) | (refine wo_some ?_) | (refine we_tup ?_)
  | (refine wss_nil ?_)
  | (refine ws_ret ?_)
  | (refine ws_if ?_)
  | (refine WW.wt (ww_and ?_)) | (refine WW.wt (ww_or ?_))
  | (refine wt_not ?_)
  | (refine ww_and ?_) | (refine ww_or ?_) | (refine ww_and1 ?_) | (refine ww_or1 ?_)
  | (refine dl_set (by assumption) (by array_get_dec) (by array_get_dec) (by with_unfolding_all rfl) ?_)
  | (refine dl_setIx (by assumption) (by array_get_dec) (by array_get_dec) (by with_unfolding_all rfl) (by with_unfolding_all exact fun _ => rfl) (by with_unfolding_all rfl) (by with_unfolding_all rfl) (by with_unfolding_all rfl) ?_)
  | (refine ite_t ?_) | (refine ite_f ?_)
  | (refine ⟨(by simp : List.length _ ≤ 1000000), ?_⟩)
  | (with_unfolding_all refine ⟨_, rfl, ?_⟩))


theorem ks_snoc {α : Type} {m : List (Nat × α)} {g : Nat} {x : α} : ksOf (m ++ [(g, x)]) = ksOf m ++ [Sum.inl (g : Int)] := by unfold ksOf; rw [List.map_append]; rfl
theorem xs_snoc {m : List (Nat × Nat)} {g L : Nat} : xsOf (m ++ [(g, L)]) = xsOf m ++ [D.int (L : Int)] := by unfold xsOf; rw [List.map_append]; rfl
theorem dget_xs (g : Nat) {m : List (Nat × Nat)} : dget (ksOf m) (xsOf m) (.inl (g : Int)) = (lk m g).map fun (L : Nat) => D.int (L : Int) := dget_ks (fun L : Nat => D.int (L : Int)) g
theorem lk_of {α : Type} {m : List (Nat × α)} {a : Nat} {x : α} (hn : (m.map (·.1)).Nodup) (h : (a, x) ∈ m) : lk m a = some x := by
  induction m with
  | nil => cases h
  | cons p m ih =>
    obtain ⟨c, z⟩ := p
    obtain ⟨n1, n2⟩ := List.nodup_cons.mp (show (c :: m.map (·.1)).Nodup from hn)
    show (if c = a then some z else lk m a) = some x
    rcases List.mem_cons.mp h with e | h
    · cases e; exact if_pos rfl
    · rw [if_neg (fun e => n1 (List.mem_map.mpr ⟨_, h, e.symm⟩))]; exact ih n2 h
def A_llenR (ds : List D) (P : D → Prop) (PX : Addr → List (Str × D) → Prop) : Prop := ∃ (s : Sc) (k : Nat), ds = [s.plain, .int k] ∧ s.Ok ∧ k < s.n ∧ ∀ (m : List (Nat × Nat)) (p : Addr), Fin0 s k m → (m.map (·.1)).Nodup → m.length ≤ s.n → P (.owd p (ksOf m) (xsOf m))
def A_llen (ds : List D) (P : D → Prop) : Prop := ∃ (s : Sc) (k : Nat), ds = [s.plain, .int k] ∧ s.Ok ∧ k < s.n ∧ ∀ m : List (Nat × Nat), Fin0 s k m → (m.map (·.1)).Nodup → m.length ≤ s.n → P (.dic (ksOf m) (xsOf m))
section
variable {P : Program} {w : World} {K : PySem.W.Frag} {mg : Str → Option Value} {base : Heap} {f : Addr} {fd : FuncData} {C : Addr}
theorem ok_llenR (F : Fun K "_law_lengths" "_law_lengths" s_l_lengths f fd) (bn : NoMg mg BI) : FnOk P w K mg base (L2.CX P w) 1 f fd P_l_lengths (spRL K [false, false] A_llenR) := by
  refine Fun.okRL (Vn := V_l_lengths) (L := L_l_lengths) (G := G_l_lengths) F sc_l_lengths rfl v_l_lengths l_l_lengths g_l_lengths fun X ds Q QX dx hl hA => ?_
  obtain ⟨s, k, rfl, ho, hk, q⟩ := hA
  have hun := dx.room.un
  have hn12 := ho.n2
  refine wss_cons ?_
  refine dl_setP dx (by array_get_dec) (by array_get_dec) (by with_unfolding_all rfl) ?_
  refine wr_dict1 (dl_name (by assumption) (by array_get_dec) (by array_get_dec) (by with_unfolding_all rfl) ?_)
  refine ⟨.inl (k : Int), rfl, WE.wr (we_int fun p => ?_)⟩
  refine wss_cons ?_
  refine dl_setL (by assumption) (by array_get_dec) (by array_get_dec) (by with_unfolding_all rfl) ?_
  repeat decreasing_trivial_pre_omega
  intro p2
  refine wss_cons ?_
  repeat decreasing_trivial_pre_omega
  let E (m : List (Nat × Nat)) (i : Nat) (o5 : Option Slot) : Ev := [some (.frz s.plain), some (.frz (.int k)), some (.prv (.owd p (ksOf m) (xsOf m))), some (.own p2 (.lst (natL (m.map (·.1))))), some (.frz (.int i)), o5]
  refine wss_cut (fun ev => ∃ (m : List (Nat × Nat)) (i : Nat) (o5 : Option Slot), QI s k m i ∧ m.length ≤ i ∧ ev = E m i o5) ?_ ?_
  · refine dl_while dx (fun n ev => ∃ (m : List (Nat × Nat)) (i : Nat) (o5 : Option Slot), QI s k m i ∧ n = s.n - i ∧ ev = E m i o5) _ ⟨[(k, 0)], 0, none, QI.init hk, rfl, by with_unfolding_all rfl⟩ ?_
    rintro n ev ⟨m, i, o5, hS, rfl, rfl⟩
    have hll := hS.len
    refine wt_lt ?_
    refine dl_name (by assumption) (by array_get_dec) (by array_get_dec) (by with_unfolding_all rfl) ?_
    refine dl_lenOwn (by assumption) (by assumption) (by array_get_dec) (by array_get_dec) (by array_get_dec) (by array_get_dec) (by with_unfolding_all rfl) ?_
    refine ite_d (fun hlt => ?_) (fun hlt => ⟨m, i, o5, hS, by rw [natL_len, List.length_map] at hlt; omega, rfl⟩)
    rw [natL_len, List.length_map] at hlt
    have hi : i < m.length := by omega
    obtain ⟨a, L, ha⟩ : ∃ a L, m[i]? = some (a, L) := ⟨_, _, List.getElem?_eq_getElem hi⟩
    have hal : a < s.n := hS.lt _ (List.mem_of_getElem? ha)
    refine wss_cut (fun ev => ∃ (m' : List (Nat × Nat)) (o5 : Option Slot), QI s k m' (i + 1) ∧ ev = E m' i o5) ?_ ?_
    · refine dl_forL 5 (by assumption) (by array_get_dec) (by array_get_dec) (by with_unfolding_all exact fun _ => rfl) ?_
      repeat decreasing_trivial_pre_omega
      refine ⟨_, atI_nat (natL_get (by rw [List.getElem?_map, ha]; rfl)), _, atI_nat (ho.tab_at hal), ?_⟩
      refine ⟨fun c ev => ∃ (m' : List (Nat × Nat)) (o5 : Option Slot), QI s k m' i ∧ m'[i]? = some (a, L) ∧ (∀ z ∈ (s.mv.getD a []).take c, ∃ L', lk m' z = some L' ∧ L' ≤ L + 1) ∧ ev = E m' i o5, ⟨m, o5, hS, ha, (fun z hz => nomatch hz), rfl⟩, ?_, ?_⟩
      · rintro c d ev hc ⟨m', o5, hS', ha', hcl, rfl⟩
        unfold natL at hc
        rw [List.getElem?_map] at hc
        cases hz : (s.mv.getD a [])[c]? with
        | none => rw [hz] at hc; cases hc
        | some z =>
          rw [hz] at hc
          cases hc
          have hll' := hS'.len
          have hnd : lk m' a = some L := lk_of hS'.nd (List.mem_of_getElem? ha')
          refine wss_cons ?_
          refine ws_if (wt_prv 2 (by with_unfolding_all rfl) (wt_notInDic (by omega) rfl ?_))
          repeat decreasing_trivial_pre_omega
          refine ⟨ksOf m', D.erAll (xsOf m'), .inl (z : Int), rfl, rfl, ?_⟩
          rw [er_xs, dget_xs]
          cases hm : lk m' z with
          | some L' =>
            refine ite_f (wss_nil (wss_nil ⟨m', some (.frz (.int z)), hS', ha', fun y hy => ?_, by with_unfolding_all rfl⟩))
            rcases take_snoc hz hy with hy | rfl
            · exact hcl y hy
            · exact ⟨L', hm, hS'.up _ ha' _ (lk_mem hm)⟩
          | none =>
            refine ite_t (wss_cons ?_)
            refine dl_setKeyR dx (by array_get_dec) (by array_get_dec) (by with_unfolding_all rfl) (by with_unfolding_all rfl) (WE.wr (WE.mono (P := fun d => d = .int ((L + 1 : Nat) : Int)) (we_prv 2 (by with_unfolding_all rfl) (fun d h => by rw [h]; exact ⟨_, rfl⟩) ?_) ?_))
            · refine we_add (we_dget (by omega) (by with_unfolding_all exact fun _ _ => rfl) ?_)
              repeat decreasing_trivial_pre_omega
              refine ⟨_, atI_nat (natL_get (by rw [List.getElem?_map, ha']; rfl)), ksOf m', D.erAll (xsOf m'), .inl (a : Int), .int (L : Int), rfl, rfl, by rw [er_xs, dget_xs, hnd]; rfl, ?_⟩
              repeat decreasing_trivial_pre_omega
              rfl
            rintro d rfl
            refine dl_name (by assumption) (by array_get_dec) (by array_get_dec) (by with_unfolding_all rfl) ?_
            refine ⟨.inl (z : Int), rfl, by rw [dget_xs, hm]; rfl, by unfold xsOf; rw [List.length_map]; omega, ?_⟩
            refine wss_cons ?_
            refine dl_append (q0 := p2) (ds := natL (m'.map (·.1))) (by assumption) (by array_get_dec) (by array_get_dec) (by with_unfolding_all rfl) (by with_unfolding_all exact fun h1 h2 => pe_bm PySem.F.plainAttrs_list PySem.F.slot_list_append PySem.F.type_list_append mt_append h1 h2) (by with_unfolding_all rfl) (by with_unfolding_all rfl) ?_ ?_
            · rw [natL_len, List.length_map]; omega
            repeat decreasing_trivial_pre_omega
            refine ⟨m' ++ [(z, L + 1)], some (.frz (.int z)), hS'.add ho ha' hz hm, get_snoc ha', fun y hy => ?_, ?_⟩
            · rcases take_snoc hz hy with hy | rfl
              · obtain ⟨L', h1, h2⟩ := hcl y hy
                exact ⟨L', lk_some h1, h2⟩
              · exact ⟨L + 1, (lk_new hm).trans (if_pos rfl), Nat.le_refl _⟩
            · show _ = [some (DL.Slot.frz s.plain), some (.frz (.int k)), some (.prv (.owd p (ksOf (m' ++ [(z, L + 1)])) (xsOf (m' ++ [(z, L + 1)])))), some (.own p2 (.lst (natL ((m' ++ [(z, L + 1)]).map (·.1))))), some (.frz (.int i)), some (.frz (.int z))]
              rw [ks_snoc, xs_snoc, List.map_append]
              show _ = [some (DL.Slot.frz s.plain), some (.frz (.int k)), some (.prv (.owd p (ksOf m' ++ [Sum.inl (z : Int)]) (xsOf m' ++ [D.int ((L + 1 : Nat) : Int)]))), some (.own p2 (.lst (natL (m'.map (·.1) ++ [z])))), some (.frz (.int i)), some (.frz (.int z))]
              rw [← natL_snoc]
              with_unfolding_all rfl
      · rintro ev ⟨m', o5, hS', ha', hcl, rfl⟩
        rw [natL_len, List.take_length] at hcl
        exact ⟨m', o5, hS'.next ha' hcl, rfl⟩
    · rintro ev ⟨m', o5, hS', rfl⟩
      refine wss_cons ?_
      repeat decreasing_trivial_pre_omega
      refine ⟨s.n - (i + 1), by omega, m', i + 1, o5, hS', rfl, by with_unfolding_all rfl⟩
  · rintro ev ⟨m, i, o5, hS, hi, rfl⟩
    refine wss_cons ?_
    refine dl_retPrv dx (by array_get_dec) (by array_get_dec) (by with_unfolding_all rfl) ?_
    exact q m p (hS.done hi) hS.nd hS.len
end
end My
set_option Elab.async false
set_option linter.all false
set_option maxRecDepth 100000
set_option autoImplicit false
set_option pp.deepTerms false
set_option pp.deepTerms.threshold 7
set_option pp.maxSteps 1500
set_option maxHeartbeats 1600000
namespace My
open PySem L2 DL
/-- a place in a list of names -/
local macro_rules | `(tactic| array_get_dec) => `(tactic| repeat (first | exact At.z | apply At.s))
/-- one step -/
local macro_rules | `(tactic| decreasing_trivial_pre_omega) => `(tactic| with_reducible first
  | (refine we_int ?_)
  | (refine we_bl ?_)
  | (refine we_non ?_)
  | (refine we_str ?_)
  | (refine dl_name (by assumption) (by array_get_dec) (by array_get_dec) (by with_unfolding_all rfl) ?_)
  | (refine dl_ixOwn (by assumption) (by array_get_dec) (by array_get_dec) (by with_unfolding_all rfl) (by with_unfolding_all exact fun _ _ => rfl) ?_)
  | (refine we_ix (by with_unfolding_all exact fun _ _ => rfl) ?_)
  | (refine WL.we (wl_cat (b := .List _ _) ?_))
  | (refine we_add ?_)
  | (refine we_sub ?_)
  | (refine WL.we (wl_rep (a := .List _ _) ?_)) | (refine wl_rep (a := .List _ _) ?_)
  | (refine we_muls ?_)
  | (refine we_neg ?_)
  | (refine we_mod ?_)
  | (refine we_fdiv ?_)
  | (refine we_pow ?_)
  | (refine we_lt ?_) | (refine we_le ?_) | (refine we_gt ?_) | (refine we_ge ?_)
  | (refine we_lele (by with_unfolding_all rfl) ?_) | (refine wt_lele (by with_unfolding_all rfl) ?_)
  | (refine wt_lt ?_) | (refine wt_le ?_) | (refine wt_gt ?_) | (refine wt_ge ?_) | (refine wt_eqI ?_)
  | (refine wt_neI ?_) | (refine wt_isN ?_) | (refine wt_notN ?_) | (refine we_isN ?_) | (refine we_notN ?_)
  | (refine wa_nil ?_)
  | (refine wa_cons ?_ (by with_unfolding_all rfl))
  | (refine dl_len (by assumption) (by assumption) (by array_get_dec) (by array_get_dec) (by with_unfolding_all rfl) ?_)
  | (refine dl_abs (by assumption) (by assumption) (by array_get_dec) (by array_get_dec) (by with_unfolding_all rfl) ?_)
  | (refine dl_int (by assumption) (by assumption) (by array_get_dec) (by array_get_dec) (by with_unfolding_all rfl) ?_)
  | (refine dl_min (by assumption) (by assumption) (by array_get_dec) (by array_get_dec) (by with_unfolding_all rfl) (by with_unfolding_all rfl) ?_)
  | (refine dl_max (by assumption) (by assumption) (by array_get_dec) (by array_get_dec) (by with_unfolding_all rfl) (by with_unfolding_all rfl) ?_)
  | (refine dl_isi (by assumption) (by assumption) (by array_get_dec) (by array_get_dec) (by with_unfolding_all rfl) (by with_unfolding_all rfl) ?_)
  | (refine dl_all (by assumption) (by assumption) (by array_get_dec) (by array_get_dec) (by with_unfolding_all rfl) ?_)
  | (refine dl_list (by assumption) (by assumption) (by array_get_dec) (by array_get_dec) (by with_unfolding_all rfl) ?_)
  | (refine dl_tuple (by assumption) (by assumption) (by array_get_dec) (by array_get_dec) (by with_unfolding_all rfl) ?_)
  | (refine dl_ty (by assumption) (by assumption) boot_int (by array_get_dec) (by array_get_dec) ?_)
  | (refine dl_ty (by assumption) (by assumption) boot_bool (by array_get_dec) (by array_get_dec) ?_)
  | (refine dl_ty (by assumption) (by assumption) boot_list (by array_get_dec) (by array_get_dec) ?_)
  | (refine dl_pure (by assumption) (by assumption) (by array_get_dec) (by decide) (by with_unfolding_all rfl) (by with_unfolding_all rfl) ?_)
  | (refine dl_bag (by assumption) (by assumption) (by array_get_dec) (by decide) (by with_unfolding_all rfl) (by with_unfolding_all rfl) ?_)
  | (refine dl_glob (d := .int _) (v := .int _) (u := .int _ _) (by assumption) (by array_get_dec) (by assumption) (by with_unfolding_all exact ⟨_, rfl⟩) (by with_unfolding_all rfl) ?_)
  | (refine we_one ?_) | (refine we_eqI ?_) | (refine we_not ?_) | (refine we_and ?_) | (refine we_or ?_)
  | (refine wt_val ?_ (by with_unfolding_all exact fun _ => rfl))
  | (refine WL.we (wl_lst ?_)) | (refine WL.we (wl_slice ?_)) | (refine wl_lst ?_) | (refine wl_slice ?_) | (refine wl_cat ?_)
  | (refine wo_none ?_) | (refine wo_some ?_) | (refine we_tup ?_)
  | (refine wss_nil ?_)
  | (refine ws_ret ?_)
  | (refine ws_if ?_)
  | (refine WW.wt (ww_and ?_)) | (refine WW.wt (ww_or ?_))
  | (refine wt_not ?_)
  | (refine ww_and ?_) | (refine ww_or ?_) | (refine ww_and1 ?_) | (refine ww_or1 ?_)
  | (refine dl_set (by assumption) (by array_get_dec) (by array_get_dec) (by with_unfolding_all rfl) ?_)
  | (refine dl_setIx (by assumption) (by array_get_dec) (by array_get_dec) (by with_unfolding_all rfl) (by with_unfolding_all exact fun _ => rfl) (by with_unfolding_all rfl) (by with_unfolding_all rfl) (by with_unfolding_all rfl) ?_)
  | (refine ite_t ?_) | (refine ite_f ?_)
  | (refine ⟨(by simp : List.length _ ≤ 1000000), ?_⟩)
  | (with_unfolding_all refine ⟨_, rfl, ?_⟩))


inductive RO : List (Nat × List Int) → List D → Prop
  | nil : RO [] []
  | cons {g : Nat} {r : List Int} {q : Addr} {kr : List (Nat × List Int)} {xs : List D} : r.length ≤ 12 → RO kr xs → RO ((g, r) :: kr) (.own q (r.map .int) :: xs)
theorem RO.snoc {g : Nat} {r : List Int} {q : Addr} {kr : List (Nat × List Int)} {xs : List D} (h : RO kr xs) (hb : r.length ≤ 12) : RO (kr ++ [(g, r)]) (xs ++ [.own q (r.map .int)]) := by
  induction h with
  | nil => exact .cons hb .nil
  | cons h1 _ ih => exact .cons h1 ih
theorem er_ints0 : ∀ r : List Int, D.erAll (r.map .int) = r.map .int
  | [] => rfl
  | z :: r => by show D.int z :: D.erAll (r.map .int) = _; rw [er_ints0 r]; rfl
theorem RO.er {kr : List (Nat × List Int)} {xs : List D} (h : RO kr xs) : D.erAll xs = kr.map fun q => D.lst (q.2.map .int) := by
  induction h with
  | nil => rfl
  | cons _ _ ih =>
    show D.lst (D.erAll _) :: D.erAll _ = _
    rw [ih, er_ints0]
    rfl
theorem RO.len {kr : List (Nat × List Int)} {xs : List D} (h : RO kr xs) : xs.length = kr.length := by
  induction h with
  | nil => rfl
  | cons _ _ ih => exact congrArg (· + 1) ih
theorem RO.getN {kr : List (Nat × List Int)} {xs : List D} (h : RO kr xs) {g : Nat} (e : lk kr g = none) : dget (ksOf kr) xs (.inl (g : Int)) = none := by
  induction h with
  | nil => rfl
  | cons _ _ ih =>
    rename_i a r q kr xs _ _
    have e' : (if a = g then some r else lk kr g) = none := e
    by_cases h : a = g
    · rw [if_pos h] at e'; cases e'
    · rw [if_neg h] at e'
      exact (if_neg (fun z => h (by have := Sum.inl.inj z; omega))).trans (ih e')
theorem RO.getS {kr : List (Nat × List Int)} {xs : List D} (h : RO kr xs) {g : Nat} {r : List Int} (e : lk kr g = some r) : ∃ q, dget (ksOf kr) xs (.inl (g : Int)) = some (.own q (r.map .int)) := by
  induction h with
  | nil => cases e
  | cons _ _ ih =>
    rename_i a r' q kr xs _ _
    have e' : (if a = g then some r' else lk kr g) = some r := e
    by_cases h : a = g
    · rw [if_pos h] at e'
      cases e'
      subst h
      exact ⟨q, if_pos rfl⟩
    · rw [if_neg h] at e'
      obtain ⟨q', h'⟩ := ih e'
      exact ⟨q', (if_neg (fun z => h (by have := Sum.inl.inj z; omega))).trans h'⟩
theorem RO.bound {kr : List (Nat × List Int)} {xs : List D} (h : RO kr xs) : ∀ p ∈ kr, p.2.length ≤ 12 := by
  induction h with
  | nil => exact fun p hp => nomatch hp
  | cons h1 _ ih =>
    intro p hp
    rcases List.mem_cons.mp hp with rfl | hp
    · exact h1
    · exact ih p hp
def A_shortR (ds : List D) (P : D → Prop) (PX : Addr → List (Str × D) → Prop) : Prop := ∃ (s : Sc) (k : Nat), ds = [s.tD, .int k] ∧ s.Ok ∧ k < s.n ∧ ∀ (kr : List (Nat × List Int)) (xs : List D) (p : Addr) (j l0 : Nat), LM s k kr [] [] j l0 → RO kr xs → P (.owd p (ksOf kr) xs)
def A_short (ds : List D) (P : D → Prop) : Prop := ∃ (s : Sc) (k : Nat), ds = [s.tD, .int k] ∧ s.Ok ∧ k < s.n ∧ ∀ (kr : List (Nat × List Int)) (j l0 : Nat), LM s k kr [] [] j l0 → P (.dic (ksOf kr) (kr.map fun q => D.lst (q.2.map .int)))
section
variable {P : Program} {w : World} {K : PySem.W.Frag} {mg : Str → Option Value} {base : Heap} {f : Addr} {fd : FuncData} {C : Addr}
theorem ok_shortR (F : Fun K "shortest_rows" "shortest_rows" s_p_shortest_rows f fd) (bn : NoMg mg BI) : FnOk P w K mg base (L2.CX P w) 1 f fd P_p_shortest_rows (spRL K [false, false] A_shortR) := by
  refine Fun.okRL (Vn := V_p_shortest_rows) (L := L_p_shortest_rows) (G := G_p_shortest_rows) F sc_p_shortest_rows rfl v_p_shortest_rows l_p_shortest_rows g_p_shortest_rows fun X ds Q QX dx hl hA => ?_
  obtain ⟨s, k, rfl, ho, hk, q⟩ := hA
  have hun := dx.room.un
  have hn12 := ho.n2
  refine wss_cons ?_
  refine dl_setP dx (by array_get_dec) (by array_get_dec) (by with_unfolding_all rfl) ?_
  refine wr_dict1 (dl_name (by assumption) (by array_get_dec) (by array_get_dec) (by with_unfolding_all rfl) ?_)
  refine ⟨.inl (k : Int), rfl, WL.wr (wl_lst (wa_nil ⟨by simp, fun q1 p => ?_⟩))⟩
  refine wss_cons ?_
  refine dl_set (by assumption) (by array_get_dec) (by array_get_dec) (by with_unfolding_all rfl) (WL.we ?_)
  repeat decreasing_trivial_pre_omega
  let E (kr : List (Nat × List Int)) (xs : List D) (la : List Nat) (o4 o5 o6 o7 : Option Slot) : Ev := [some (.frz s.tD), some (.frz (.int k)), some (.prv (.owd p (ksOf kr) xs)), some (.frz (.lst (natL la))), o4, o5, o6, o7]
  refine wss_cut (fun ev => ∃ (kr : List (Nat × List Int)) (xs : List D) (j l0 : Nat) (o4 o5 o6 o7 : Option Slot), LM s k kr [] [] j l0 ∧ RO kr xs ∧ ev = E kr xs [] o4 o5 o6 o7) ?_ ?_
  · refine dl_while dx (fun n ev => ∃ (kr : List (Nat × List Int)) (xs : List D) (la : List Nat) (j : Nat) (o4 o5 o6 o7 : Option Slot), LM s k kr la [] j kr.length ∧ RO kr xs ∧ (la ≠ [] → j + 1 ≤ kr.length) ∧ n = 2 * (s.n - kr.length) + (if la = [] then 0 else 1) ∧ ev = E kr xs la o4 o5 o6 o7) _ ⟨[(k, [])], [.own q1 []], [k], 0, none, none, none, none, LM.init hk, .cons (Nat.zero_le _) .nil, (fun _ => Nat.le_refl _), rfl, by with_unfolding_all rfl⟩ ?_
    rintro n ev ⟨kr, xs, la, j, o4, o5, o6, o7, hL, hR, hj, rfl, rfl⟩
    refine wt_lst (dl_name (by assumption) (by array_get_dec) (by array_get_dec) (by with_unfolding_all rfl) ?_) (by with_unfolding_all exact fun _ => rfl)
    rcases Nat.eq_zero_or_pos la.length with hz | hz
    · have : la = [] := List.length_eq_zero_iff.mp hz
      subst this
      refine ite_f ?_
      exact ⟨kr, xs, j, _, o4, o5, o6, o7, hL, hR, rfl⟩
    · have hne : la ≠ [] := fun z => by rw [z] at hz; exact absurd hz (Nat.lt_irrefl _)
      have hemp : (!(natL la).isEmpty) = true := by
        cases la with
        | nil => exact absurd rfl hne
        | cons a la => rfl
      show if (!(natL la).isEmpty) = true then _ else _
      rw [hemp]
      refine ite_t ?_
      refine wss_cons ?_
      refine dl_setL (by assumption) (by array_get_dec) (by array_get_dec) (by with_unfolding_all rfl) ?_
      repeat decreasing_trivial_pre_omega
      intro p4
      refine wss_cut (fun ev => ∃ (kr' : List (Nat × List Int)) (xs' : List D) (fu : List Nat) (o5 o6 o7 : Option Slot), LM s k kr' [] fu j kr.length ∧ RO kr' xs' ∧ ev = E kr' xs' la (some (.own p4 (.lst (natL fu)))) o5 o6 o7) ?_ ?_
      · refine dl_forL 5 (by assumption) (by array_get_dec) (by array_get_dec) (by with_unfolding_all exact fun _ => rfl) ?_
        refine dl_name (by assumption) (by array_get_dec) (by array_get_dec) (by with_unfolding_all rfl) ?_
        refine ⟨fun i ev => ∃ (kr' : List (Nat × List Int)) (xs' : List D) (fu : List Nat) (o5 o6 o7 : Option Slot), LM s k kr' (la.drop i) fu j kr.length ∧ RO kr' xs' ∧ ev = E kr' xs' la (some (.own p4 (.lst (natL fu)))) o5 o6 o7, ⟨kr, xs, [], o5, o6, o7, hL, hR, by with_unfolding_all rfl⟩, ?_, ?_⟩
        · rintro i d ev hi ⟨kr', xs', fu, o5, o6, o7, hL', hR', rfl⟩
          unfold natL at hi
          rw [List.getElem?_map] at hi
          cases ha : la[i]? with
          | none => rw [ha] at hi; cases hi
          | some a =>
            rw [ha] at hi
            cases hi
            have hdr : la.drop i = a :: la.drop (i + 1) := by
              obtain ⟨hlt, e⟩ := List.getElem?_eq_some_iff.mp ha
              rw [List.drop_eq_getElem_cons hlt, e]
            rw [hdr] at hL'
            obtain ⟨r0, hr0, hrl0⟩ := hL'.ly a (List.mem_cons_self ..)
            have hal : a < s.n := hL'.lt _ (lk_mem hr0)
            refine wss_cut (fun ev => ∃ (kr' : List (Nat × List Int)) (xs' : List D) (fu : List Nat) (o6 o7 : Option Slot), LM s k kr' (la.drop (i + 1)) fu j kr.length ∧ RO kr' xs' ∧ ev = E kr' xs' la (some (.own p4 (.lst (natL fu)))) (some (.frz (.int a))) o6 o7) ?_ ?_
            · refine dl_forE 6 7 dx bn (by array_get_dec) (by array_get_dec) (by array_get_dec) (by array_get_dec) (by array_get_dec) (by array_get_dec) (by with_unfolding_all rfl) (by with_unfolding_all exact fun _ => rfl) ?_
              repeat decreasing_trivial_pre_omega
              refine ⟨_, atI_nat (ho.tab_at hal), ?_⟩
              refine ⟨fun c ev => ∃ (kr' : List (Nat × List Int)) (xs' : List D) (fu : List Nat) (o6 o7 : Option Slot), LM s k kr' (a :: la.drop (i + 1)) fu j kr.length ∧ RO kr' xs' ∧ (∀ z ∈ (s.mv.getD a []).take c, ∃ r', lk kr' z = some r' ∧ r'.length ≤ j + 1) ∧ ev = E kr' xs' la (some (.own p4 (.lst (natL fu)))) (some (.frz (.int a))) o6 o7, ⟨kr', xs', fu, o6, o7, hL', hR', (fun z hz => nomatch hz), by with_unfolding_all rfl⟩, ?_, ?_⟩
              · rintro c d ev hc ⟨kr', xs', fu, o6, o7, hL', hR', hcl, rfl⟩
                unfold natL at hc
                rw [List.getElem?_map] at hc
                cases hz : (s.mv.getD a [])[c]? with
                | none => rw [hz] at hc; cases hc
                | some z =>
                  rw [hz] at hc
                  cases hc
                  obtain ⟨r, hr, hrl⟩ := hL'.ly a (List.mem_cons_self ..)
                  have hkl := hL'.len_le
                  have hfl := hL'.len
                  have hj1 := hj hne
                  refine wss_cons ?_
                  refine ws_if (wt_prv 2 (by with_unfolding_all rfl) (wt_notInDic (by omega) rfl ?_))
                  repeat decreasing_trivial_pre_omega
                  refine ⟨ksOf kr', D.erAll xs', .inl (z : Int), rfl, rfl, ?_⟩
                  rw [hR'.er, dget_ks (fun r : List Int => D.lst (r.map .int))]
                  cases hm : lk kr' z with
                  | some r' =>
                    refine ite_f (wss_nil (wss_nil ⟨kr', xs', fu, _, _, hL', hR', fun y hy => ?_, by with_unfolding_all rfl⟩))
                    rcases take_snoc hz hy with hy | rfl
                    · exact hcl y hy
                    · exact ⟨r', hm, hL'.known hm⟩
                  | none =>
                    refine ite_t (wss_cons ?_)
                    refine dl_setKeyR dx (by array_get_dec) (by array_get_dec) (by with_unfolding_all rfl) (by with_unfolding_all rfl) (WL.wr (WL.mono (P := fun es => es = (r ++ [(c : Int)]).map .int) (wl_prv 2 (by with_unfolding_all rfl) (fun es h => by rw [h]; exact flats_ints) ?_) ?_))
                    · refine wl_cat (we_dget (by omega) (by with_unfolding_all exact fun _ _ => rfl) ?_)
                      repeat decreasing_trivial_pre_omega
                      refine ⟨ksOf kr', D.erAll xs', .inl (a : Int), .lst (r.map .int), rfl, rfl, by rw [hR'.er, dget_ks (fun r : List Int => D.lst (r.map .int)), hr]; rfl, ?_⟩
                      repeat decreasing_trivial_pre_omega
                      refine ⟨by rw [List.length_map]; show r.length + 1 ≤ _; omega, ?_⟩
                      show _ = _
                      rw [List.map_append]
                      rfl
                    rintro es rfl qr
                    refine dl_name (by assumption) (by array_get_dec) (by array_get_dec) (by with_unfolding_all rfl) ?_
                    refine ⟨.inl (z : Int), rfl, hR'.getN hm, by rw [hR'.len]; omega, ?_⟩
                    refine wss_cons ?_
                    refine dl_append (q0 := p4) (ds := natL fu) (by assumption) (by array_get_dec) (by array_get_dec) (by with_unfolding_all rfl) (by with_unfolding_all exact fun h1 h2 => pe_bm PySem.F.plainAttrs_list PySem.F.slot_list_append PySem.F.type_list_append mt_append h1 h2) (by with_unfolding_all rfl) (by with_unfolding_all rfl) ?_ ?_
                    · rw [natL_len]; omega
                    repeat decreasing_trivial_pre_omega
                    refine ⟨kr' ++ [(z, r ++ [(c : Int)])], xs' ++ [.own qr ((r ++ [(c : Int)]).map .int)], fu ++ [z], some (.frz (.int c)), some (.frz (.int z)), hL'.add ho hr hrl hz hm, hR'.snoc (by rw [List.length_append, hrl]; show j + 1 ≤ 12; omega), fun y hy => ?_, ?_⟩
                    · rcases take_snoc hz hy with hy | rfl
                      · obtain ⟨r', h1, h2⟩ := hcl y hy
                        exact ⟨r', lk_some h1, h2⟩
                      · exact ⟨_, (lk_new hm).trans (if_pos rfl), by rw [List.length_append, hrl]; exact Nat.le_refl _⟩
                    · show _ = [some (DL.Slot.frz s.tD), some (.frz (.int k)), some (.prv (.owd p (ksOf (kr' ++ [(z, r ++ [(c : Int)])])) (xs' ++ [.own qr ((r ++ [(c : Int)]).map .int)]))), some (.frz (.lst (natL la))), some (.own p4 (.lst (natL (fu ++ [z])))), some (.frz (.int a)), some (.frz (.int c)), some (.frz (.int z))]
                      rw [ks_snoc, ← natL_snoc]
                      with_unfolding_all rfl
              · rintro ev ⟨kr', xs', fu, o6, o7, hL', hR', hcl, rfl⟩
                rw [natL_len, List.take_length] at hcl
                exact ⟨kr', xs', fu, o6, o7, hL'.next hcl, hR', rfl⟩
            · rintro ev ⟨kr', xs', fu, o6, o7, hL', hR', rfl⟩
              exact wss_nil ⟨kr', xs', fu, _, o6, o7, hL', hR', rfl⟩
        · rintro ev ⟨kr', xs', fu, o5, o6, o7, hL', hR', rfl⟩
          rw [natL_len, List.drop_length] at hL'
          exact ⟨kr', xs', fu, o5, o6, o7, hL', hR', rfl⟩
      · rintro ev ⟨kr', xs', fu, o5, o6, o7, hL', hR', rfl⟩
        have hkl := hL'.len_le
        have hfl := hL'.len
        refine wss_freeze 4 (q0 := p4) (ds := natL fu) (by with_unfolding_all rfl) ?_
        refine wss_cons ?_
        repeat decreasing_trivial_pre_omega
        refine ⟨2 * (s.n - kr'.length) + (if fu = [] then 0 else 1), ?_, kr', xs', fu, j + 1, some (.frz (.lst (natL fu))), o5, o6, o7, hL'.turn, hR', ?_, rfl, by with_unfolding_all rfl⟩
        rotate_left
        · intro hf
          have h1 := hj hne
          have : 0 < fu.length := List.length_pos_iff.mpr hf
          omega
        rw [if_neg hne]
        by_cases hf : fu = []
        · rw [if_pos hf]
          subst hf
          rw [hfl]
          simp only [List.length_nil]
          omega
        · rw [if_neg hf]
          have : 0 < fu.length := List.length_pos_iff.mpr hf
          omega
  · rintro ev ⟨kr, xs, j, l0, o4, o5, o6, o7, hL, hR, rfl⟩
    refine wss_cons ?_
    refine dl_retPrv dx (by array_get_dec) (by array_get_dec) (by with_unfolding_all rfl) ?_
    exact q kr xs p j l0 hL hR
end
end My
set_option Elab.async false
set_option linter.all false
set_option maxRecDepth 100000
set_option autoImplicit false
set_option pp.deepTerms false
set_option pp.deepTerms.threshold 7
set_option pp.maxSteps 1500
set_option maxHeartbeats 1600000
namespace My
open PySem L2 DL
/-- a place in a list of names -/
local macro_rules | `(tactic| array_get_dec) => `(tactic| repeat (first | exact At.z | apply At.s))
/-- one step -/
local macro_rules | `(tactic| decreasing_trivial_pre_omega) => `(tactic| with_reducible first
  | (refine we_int ?_)
  | (refine we_bl ?_)
  | (refine we_non ?_)
  | (refine we_str ?_)
  | (refine dl_name (by assumption) (by array_get_dec) (by array_get_dec) (by with_unfolding_all rfl) ?_)
  | (refine dl_ixOwn (by assumption) (by array_get_dec) (by array_get_dec) (by with_unfolding_all rfl) (by with_unfolding_all exact fun _ _ => rfl) ?_)
  | (refine we_ix (by with_unfolding_all exact fun _ _ => rfl) ?_)
  | (refine WL.we (wl_cat (b := .List _ _) ?_))
  | (refine we_add ?_)
  | (refine we_sub ?_)
  | (refine WL.we (wl_rep (a := .List _ _) ?_)) | (refine wl_rep (a := .List _ _) ?_)
  | (refine we_muls ?_)
  | (refine we_neg ?_)
  | (refine we_mod ?_)
  | (refine we_fdiv ?_)
  | (refine we_pow ?_)
  | (refine we_lt ?_) | (refine we_le ?_) | (refine we_gt ?_) | (refine we_ge ?_)
  | (refine we_lele (by with_unfolding_all rfl) ?_) | (refine wt_lele (by with_unfolding_all rfl) ?_)
  | (refine wt_lt ?_) | (refine wt_le ?_) | (refine wt_gt ?_) | (refine wt_ge ?_) | (refine wt_eqI ?_)
  | (refine wt_neI ?_) | (refine wt_isN ?_) | (refine wt_notN ?_) | (refine we_isN ?_) | (refine we_notN ?_)
  | (refine wa_nil ?_)
  | (refine wa_cons ?_ (by with_unfolding_all rfl))
  | (refine dl_len (by assumption) (by assumption) (by array_get_dec) (by array_get_dec) (by with_unfolding_all rfl) ?_)
  | (refine dl_abs (by assumption) (by assumption) (by array_get_dec) (by array_get_dec) (by with_unfolding_all rfl) ?_)
  | (refine dl_int (by assumption) (by assumption) (by array_get_dec) (by array_get_dec) (by with_unfolding_all rfl) ?_)
  | (refine dl_min (by assumption) (by assumption) (by array_get_dec) (by array_get_dec) (by with_unfolding_all rfl) (by with_unfolding_all rfl) ?_)
  | (refine dl_max (by assumption) (by assumption) (by array_get_dec) (by array_get_dec) (by with_unfolding_all rfl) (by with_unfolding_all rfl) ?_)
  | (refine dl_isi (by assumption) (by assumption) (by array_get_dec) (by array_get_dec) (by with_unfolding_all rfl) (by with_unfolding_all rfl) ?_)
  | (refine dl_all (by assumption) (by assumption) (by array_get_dec) (by array_get_dec) (by with_unfolding_all rfl) ?_)
  | (refine dl_list (by assumption) (by assumption) (by array_get_dec) (by array_get_dec) (by with_unfolding_all rfl) ?_)
  | (refine dl_tuple (by assumption) (by assumption) (by array_get_dec) (by array_get_dec) (by with_unfolding_all rfl) ?_)
  | (refine dl_ty (by assumption) (by assumption) boot_int (by array_get_dec) (by array_get_dec) ?_)
  | (refine dl_ty (by assumption) (by assumption) boot_bool (by array_get_dec) (by array_get_dec) ?_)
  | (refine dl_ty (by assumption) (by assumption) boot_list (by array_get_dec) (by array_get_dec) ?_)
  | (refine dl_pure (by assumption) (by assumption) (by array_get_dec) (by decide) (by with_unfolding_all rfl) (by with_unfolding_all rfl) ?_)
  | (refine dl_bag (by assumption) (by assumption) (by array_get_dec) (by decide) (by with_unfolding_all rfl) (by with_unfolding_all rfl) ?_)
  | (refine dl_glob (d := .int _) (v := .int _) (u := .int _ _) (by assumption) (by array_get_dec) (by assumption) (by with_unfolding_all exact ⟨_, rfl⟩) (by with_unfolding_all rfl) ?_)
  | (refine we_one ?_) | (refine we_eqI ?_) | (refine we_not ?_) | (refine we_and ?_) | (refine we_or ?_)
  | (refine wt_val ?_ (by with_unfolding_all exact fun _ => rfl))
  | (refine WL.we (wl_lst ?_)) | (refine WL.we (wl_slice ?_)) | (refine wl_lst ?_) | (refine wl_slice ?_) | (refine wl_cat ?_)
  | (refine wo_none ?_) | (refine wo_some ?_) | (refine we_tup ?_)
  | (refine wss_nil ?_)
  | (refine ws_ret ?_)
  | (refine ws_if ?_)
  | (refine WW.wt (ww_and ?_)) | (refine WW.wt (ww_or ?_))
  | (refine wt_not ?_)
  | (refine ww_and ?_) | (refine ww_or ?_) | (refine ww_and1 ?_) | (refine ww_or1 ?_)
  | (refine dl_set (by assumption) (by array_get_dec) (by array_get_dec) (by with_unfolding_all rfl) ?_)
  | (refine dl_setIx (by assumption) (by array_get_dec) (by array_get_dec) (by with_unfolding_all rfl) (by with_unfolding_all exact fun _ => rfl) (by with_unfolding_all rfl) (by with_unfolding_all rfl) (by with_unfolding_all rfl) ?_)
  | (refine ite_t ?_) | (refine ite_f ?_)
  | (refine ⟨(by simp : List.length _ ≤ 1000000), ?_⟩)
  | (with_unfolding_all refine ⟨_, rfl, ?_⟩))


def A_made (C : Addr) (ds : List D) (P : D → Prop) : Prop := ∃ s : Sc, ds = [s.plain] ∧ s.Ok ∧ P (s.d C)
def A_reachR (C : Addr) (ds : List D) (P : D → Prop) (PX : Addr → List (Str × D) → Prop) : Prop := ∃ (s : Sc) (k : Nat), ds = [s.d C, .int k] ∧ s.Ok ∧ k < s.n ∧ ∀ (l : List Nat) (ms : List Int) (q : Addr), Clo s k l → l.Nodup → ms.Perm (l.map fun (z : Nat) => (z : Int)) → ms.Pairwise (· ≤ ·) → P (.own q (ms.map .int))
def A_wayR (C : Addr) (ds : List D) (P : D → Prop) (PX : Addr → List (Str × D) → Prop) : Prop := ∃ (s : Sc) (k g : Nat), ds = [s.d C, .int k, .int g] ∧ s.Ok ∧ k < s.n ∧ g < s.n ∧ ∀ (kr : List (Nat × List Int)) (j l0 : Nat), LM s k kr [] [] j l0 → (lk kr g = none → P .non) ∧ ∀ (r : List Int) (q : Addr), lk kr g = some r → r.length ≤ 12 → P (.own q (r.map .int))
section
variable {P : Program} {w : World} {K : PySem.W.Frag} {mg : Str → Option Value} {base : Heap} {f : Addr} {fd : FuncData} {C : Addr}
theorem llenD {A : FnOk P w K mg base (L2.CX P w) 1 f fd P_l_lengths (spRL K [false, false] A_llenR)} : FnOk P w K mg base (L2.CX P w) 1 f fd P_l_lengths (spD K none 2 A_llen) := A.imp fun vs H Q E q => spD_of (A := A_llenR) (fun ds P ⟨s, k, e, h1, h2, h⟩ => ⟨s, k, e, h1, h2, fun m p h3 h4 h5 => by show P (.dic (ksOf m) (D.erAll (xsOf m))); rw [er_xs]; exact h m h3 h4 h5⟩) vs H Q E q
theorem shortD {A : FnOk P w K mg base (L2.CX P w) 1 f fd P_p_shortest_rows (spRL K [false, false] A_shortR)} : FnOk P w K mg base (L2.CX P w) 1 f fd P_p_shortest_rows (spD K none 2 A_short) := A.imp fun vs H Q E q => spD_of (A := A_shortR) (fun ds P ⟨s, k, e, h1, h2, h⟩ => ⟨s, k, e, h1, h2, fun kr xs p j l0 h3 h4 => by show P (.dic (ksOf kr) (D.erAll xs)); rw [h4.er]; exact h kr j l0 h3⟩) vs H Q E q
theorem ok_number (F : Fun K "_law_number" "_law_number" s_l_number f fd) (bn : NoMg mg BI) : FnOk P w K mg base (L2.CX P w) 1 f fd P_l_number (spD K none 1 A_isInt) := by
  refine Fun.okD2 (Vn := V_l_number) (L := L_l_number) (G := G_l_number) F sc_l_number v_l_number l_l_number g_l_number fun X ds Q dx hl hA => ?_
  obtain ⟨d, rfl, ⟨n, hn⟩, q⟩ := hA
  refine wss_cons ?_
  repeat decreasing_trivial_pre_omega
  refine ⟨n, "int", _, hn, rfl, kit_int hn, ?_⟩
  repeat decreasing_trivial_pre_omega
  refine ite_b (fun h => ?_) (fun h => ?_)
  · repeat decreasing_trivial_pre_omega
    refine ⟨n, "bool", _, hn, rfl, kit_bool hn, ?_⟩
    repeat decreasing_trivial_pre_omega
    show Q (.bl (!d.isBl))
    rwa [show (!d.isBl) = d.isInt by cases d <;> first | rfl | cases h]
  · rwa [show d.isInt = false by cases d <;> first | rfl | cases h] at q
theorem ok_made (F : Fun K "_law_made" "_law_made" s_l_made f fd) (bn : NoMg mg BI) (f1 : MkAt P w K mg base "Scale" C 5 P_Scale_init (spIXL K C [true, true] A_scaleG)) : FnOk P w K mg base (L2.CX P w) 7 f fd P_l_made (spD K none 1 (A_made C)) := by
  refine Fun.okD2 (Vn := V_l_made) (L := L_l_made) (G := G_l_made) F sc_l_made v_l_made l_l_made g_l_made fun X ds Q dx hl hA => ?_
  obtain ⟨s, rfl, ho, q⟩ := hA
  obtain ⟨g1, g2, g3, g4⟩ := ho.good
  refine wss_cons ?_
  refine dl_retMakeXL (bs := [true, true]) dx f1 (by array_get_dec) (by decide) rfl rfl (wal_up (WL.we ?_) rfl)
  repeat decreasing_trivial_pre_omega
  refine wal_up (WL.we ?_) rfl
  refine dl_comp 1 own_l_made_0 Vc_l_made_0 Gc_l_made_0 (by assumption) (by decide +kernel) rfl (by array_get_dec) (by decide +kernel) (by decide +kernel) (by decide +kernel) (by with_unfolding_all exact fun _ => rfl) ?_
  refine we_ix (by with_unfolding_all exact fun _ _ => rfl) ?_
  refine dl_name (by assumption) (by array_get_dec) (by array_get_dec) (by with_unfolding_all rfl) ?_
  refine we_int ?_
  refine ⟨_, atI_nat (j := 1) rfl, ?_⟩
  refine ⟨by rw [List.length_map, ho.len]; have := ho.n2; omega, fun i e => (s.mv.map fun r => D.lst (natL r))[i]? = some e, fun i d hi X' dx' hK => ?_, fun es hes hE => ?_⟩
  · obtain ⟨r, _, rfl⟩ := List.mem_map.mp (List.mem_of_getElem? hi)
    refine WL.we ?_
    repeat decreasing_trivial_pre_omega
    exact hi
  · rw [same_all hes hE]
    exact wal_nil ⟨s.ps, _, rfl, g2, g3, g4, q⟩
theorem ok_reachR (F : Fun K "reached" "Scale.reached" s_Scale_reached f fd) (bn : NoMg mg BI) (hC : Cls K C) (n2 : NoAttr K C "moves") (f1 : FnAt P w K mg base "check_class" 4 P_p_check_class (spD K none 2 (A_cls C))) (f2 : FnAt P w K mg base "shortest_rows" 1 P_p_shortest_rows (spD K none 2 A_short)) : FnOk P w K mg base (L2.CX P w) 5 f fd P_Scale_reached (spRL K [false, false] (A_reachR C)) := by
  refine Fun.okRL (Vn := V_Scale_reached) (L := L_Scale_reached) (G := G_Scale_reached) F sc_Scale_reached rfl v_Scale_reached l_Scale_reached g_Scale_reached fun X ds Q QX dx hl hA => ?_
  obtain ⟨s, k, rfl, ho, hk, q⟩ := hA
  have hn12 := ho.n2
  refine wss_cons ?_
  refine ws_expr ?_ (by with_unfolding_all rfl)
  repeat decreasing_trivial_pre_omega
  refine ⟨rfl, s, k, rfl, hk, ?_⟩
  refine wss_cons ?_
  refine ws_retR (WL.wr (dl_sortedD dx bn (by array_get_dec) (by array_get_dec) (by with_unfolding_all rfl) ?_))
  refine dl_pure (by assumption) (by assumption) (by array_get_dec) (by decide) (by with_unfolding_all rfl) (by with_unfolding_all rfl) ?_
  refine wa_cons (we_fld rfl ?_) (by with_unfolding_all rfl)
  repeat decreasing_trivial_pre_omega
  refine ⟨C, _, _, rfl, by rw [dx.K_]; exact hC, by rw [dx.K_]; exact n2, rfl, ?_⟩
  repeat decreasing_trivial_pre_omega
  refine ⟨rfl, s, k, rfl, ho, hk, fun kr j l0 hL => ?_⟩
  have e : (kr.map fun p => (p.1, p.2.length)).map (·.1) = kr.map (·.1) := by rw [List.map_map]; rfl
  refine ⟨(kr.map (·.1)).map fun (z : Nat) => (z : Int), _, by rw [List.map_map, List.map_map]; rfl, by rw [List.length_map, List.length_map]; have := hL.len_le; omega, fun ms h1 h2 p => ?_⟩
  exact q (kr.map (·.1)) ms p (by rw [← e]; exact hL.done.clo) hL.nd h1 h2
theorem ok_wayR (F : Fun K "way" "Scale.way" s_Scale_way f fd) (bn : NoMg mg BI) (hC : Cls K C) (n2 : NoAttr K C "moves") (f1 : FnAt P w K mg base "check_class" 4 P_p_check_class (spD K none 2 (A_cls C))) (f2 : FnAt P w K mg base "shortest_rows" 1 P_p_shortest_rows (spRL K [false, false] A_shortR)) : FnOk P w K mg base (L2.CX P w) 5 f fd P_Scale_way (spRL K [false, false, false] (A_wayR C)) := by
  refine Fun.okRL (Vn := V_Scale_way) (L := L_Scale_way) (G := G_Scale_way) F sc_Scale_way rfl v_Scale_way l_Scale_way g_Scale_way fun X ds Q QX dx hl hA => ?_
  obtain ⟨s, k, g, rfl, ho, hk, hg, q⟩ := hA
  have hun := dx.room.un
  refine wss_cons ?_
  refine ws_expr ?_ (by with_unfolding_all rfl)
  repeat decreasing_trivial_pre_omega
  refine ⟨rfl, s, k, rfl, hk, ?_⟩
  refine wss_cons ?_
  refine ws_expr ?_ (by with_unfolding_all rfl)
  repeat decreasing_trivial_pre_omega
  refine ⟨rfl, s, g, rfl, hg, ?_⟩
  refine wss_cons ?_
  refine ws_retR (wr_get (by omega) (by with_unfolding_all exact ⟨rfl, rfl, rfl, rfl⟩) (dl_callR dx f2 (by array_get_dec) (by decide) (by with_unfolding_all rfl) (by with_unfolding_all rfl) ?_))
  refine wal_cons (we_fld rfl ?_) rfl
  repeat decreasing_trivial_pre_omega
  refine ⟨C, _, _, rfl, by rw [dx.K_]; exact hC, by rw [dx.K_]; exact n2, rfl, ?_⟩
  refine wal_cons ?_ rfl
  repeat decreasing_trivial_pre_omega
  refine wal_nil ⟨s, k, rfl, ho, hk, fun kr xs p j l0 hL hR => ⟨p, ksOf kr, xs, rfl, ?_⟩⟩
  refine dl_name (by assumption) (by array_get_dec) (by array_get_dec) (by with_unfolding_all rfl) ?_
  refine ⟨.inl (g : Int), rfl, ?_⟩
  obtain ⟨q1, q2⟩ := q kr j l0 hL
  cases e : lk kr g with
  | none => rw [hR.getN e]; exact q1 e
  | some r =>
    obtain ⟨qa, e2⟩ := hR.getS e
    rw [e2]
    exact q2 r qa e (hR.bound _ (lk_mem e))
end
end My
set_option Elab.async false
set_option linter.all false
set_option maxRecDepth 100000
set_option autoImplicit false
set_option pp.deepTerms false
set_option pp.deepTerms.threshold 7
set_option pp.maxSteps 1500
set_option maxHeartbeats 1600000
namespace My
open PySem L2 DL
/-- a place in a list of names -/
local macro_rules | `(tactic| array_get_dec) => `(tactic| repeat (first | exact At.z | apply At.s))
/-- one step -/
local macro_rules | `(tactic| decreasing_trivial_pre_omega) => `(tactic| with_reducible first
  | (refine we_int ?_)
  | (refine we_bl ?_)
  | (refine we_non ?_)
  | (refine we_str ?_)
  | (refine dl_name (by assumption) (by array_get_dec) (by array_get_dec) (by with_unfolding_all rfl) ?_)
  | (refine dl_ixOwn (by assumption) (by array_get_dec) (by array_get_dec) (by with_unfolding_all rfl) (by with_unfolding_all exact fun _ _ => rfl) ?_)
  | (refine we_ix (by with_unfolding_all exact fun _ _ => rfl) ?_)
  | (refine WL.we (wl_cat (b := .List _ _) ?_))
  | (refine we_add ?_)
  | (refine we_sub ?_)
  | (refine WL.we (wl_rep (a := .List _ _) ?_)) | (refine wl_rep (a := .List _ _) ?_)
  | (refine we_muls ?_)
  | (refine we_neg ?_)
  | (refine we_mod ?_)
  | (refine we_fdiv ?_)
  | (refine we_pow ?_)
  | (refine we_lt ?_) | (refine we_le ?_) | (refine we_gt ?_) | (refine we_ge ?_)
  | (refine we_lele (by with_unfolding_all rfl) ?_) | (refine wt_lele (by with_unfolding_all rfl) ?_)
  | (refine wt_lt ?_) | (refine wt_le ?_) | (refine wt_gt ?_) | (refine wt_ge ?_) | (refine wt_eqI ?_)
  | (refine wt_neI ?_) | (refine wt_isN ?_) | (refine wt_notN ?_) | (refine we_isN ?_) | (refine we_notN ?_)
  | (refine wa_nil ?_)
  | (refine wa_cons ?_ (by with_unfolding_all rfl))
  | (refine dl_len (by assumption) (by assumption) (by array_get_dec) (by array_get_dec) (by with_unfolding_all rfl) ?_)
  | (refine dl_abs (by assumption) (by assumption) (by array_get_dec) (by array_get_dec) (by with_unfolding_all rfl) ?_)
  | (refine dl_int (by assumption) (by assumption) (by array_get_dec) (by array_get_dec) (by with_unfolding_all rfl) ?_)
  | (refine dl_min (by assumption) (by assumption) (by array_get_dec) (by array_get_dec) (by with_unfolding_all rfl) (by with_unfolding_all rfl) ?_)
  | (refine dl_max (by assumption) (by assumption) (by array_get_dec) (by array_get_dec) (by with_unfolding_all rfl) (by with_unfolding_all rfl) ?_)
  | (refine dl_isi (by assumption) (by assumption) (by array_get_dec) (by array_get_dec) (by with_unfolding_all rfl) (by with_unfolding_all rfl) ?_)
  | (refine dl_all (by assumption) (by assumption) (by array_get_dec) (by array_get_dec) (by with_unfolding_all rfl) ?_)
  | (refine dl_list (by assumption) (by assumption) (by array_get_dec) (by array_get_dec) (by with_unfolding_all rfl) ?_)
  | (refine dl_tuple (by assumption) (by assumption) (by array_get_dec) (by array_get_dec) (by with_unfolding_all rfl) ?_)
  | (refine dl_ty (by assumption) (by assumption) boot_int (by array_get_dec) (by array_get_dec) ?_)
  | (refine dl_ty (by assumption) (by assumption) boot_bool (by array_get_dec) (by array_get_dec) ?_)
  | (refine dl_ty (by assumption) (by assumption) boot_list (by array_get_dec) (by array_get_dec) ?_)
  | (refine dl_pure (by assumption) (by assumption) (by array_get_dec) (by decide) (by with_unfolding_all rfl) (by with_unfolding_all rfl) ?_)
  | (refine dl_bag (by assumption) (by assumption) (by array_get_dec) (by decide) (by with_unfolding_all rfl) (by with_unfolding_all rfl) ?_)
  | (refine dl_glob (d := .int _) (v := .int _) (u := .int _ _) (by assumption) (by array_get_dec) (by assumption) (by with_unfolding_all exact ⟨_, rfl⟩) (by with_unfolding_all rfl) ?_)
  | (refine we_one ?_) | (refine we_eqI ?_) | (refine we_not ?_) | (refine we_and ?_) | (refine we_or ?_)
  | (refine wt_val ?_ (by with_unfolding_all exact fun _ => rfl))
  | (refine WL.we (wl_lst ?_)) | (refine WL.we (wl_slice ?_)) | (refine wl_lst ?_) | (refine wl_slice ?_) | (refine wl_cat ?_)
  | (refine wo_none ?_) | (refine wo_some ?_) | (refine we_tup ?_)
  | (refine wss_nil ?_)
  | (refine ws_ret ?_)
  | (refine ws_if ?_)
  | (refine WW.wt (ww_and ?_)) | (refine WW.wt (ww_or ?_))
  | (refine wt_not ?_)
  | (refine ww_and ?_) | (refine ww_or ?_) | (refine ww_and1 ?_) | (refine ww_or1 ?_)
  | (refine dl_set (by assumption) (by array_get_dec) (by array_get_dec) (by with_unfolding_all rfl) ?_)
  | (refine dl_setIx (by assumption) (by array_get_dec) (by array_get_dec) (by with_unfolding_all rfl) (by with_unfolding_all exact fun _ => rfl) (by with_unfolding_all rfl) (by with_unfolding_all rfl) (by with_unfolding_all rfl) ?_)
  | (refine ite_t ?_) | (refine ite_f ?_)
  | (refine ⟨(by simp : List.length _ ≤ 1000000), ?_⟩)
  | (with_unfolding_all refine ⟨_, rfl, ?_⟩))


def A_wr (C : Addr) (ds : List D) (P : D → Prop) : Prop := ∃ (s : Sc) (k g : Nat) (m : List (Nat × Nat)), ds = [s.d C, s.plain, .int k, .int g, .dic (ksOf m) (xsOf m)] ∧ s.Ok ∧ k < s.n ∧ g < s.n ∧ Fin0 s k m ∧ P (.bl true)
section
variable {P : Program} {w : World} {K : PySem.W.Frag} {mg : Str → Option Value} {base : Heap} {f : Addr} {fd : FuncData} {C : Addr}
theorem ok_wr (F : Fun K "_law_way_right" "_law_way_right" s_l_way_right f fd) (bn : NoMg mg BI) (hC : Cls K C) (f1 : FnAt P w K mg base "_law_classes" 2 P_l_classes (spD K none 3 A_lcls)) (f2 : FnAt P w K mg base "_law_number" 1 P_l_number (spD K none 1 A_isInt)) (f3 : MeAt P w K mg base C "way" 5 P_Scale_way (spRL K [false, false, false] (A_wayR C))) : FnOk P w K mg base (L2.CX P w) 6 f fd P_l_way_right (spD K none 5 (A_wr C)) := by
  refine Fun.okD2 (Vn := V_l_way_right) (L := L_l_way_right) (G := G_l_way_right) F sc_l_way_right v_l_way_right l_l_way_right g_l_way_right fun X ds Q dx hl hA => ?_
  obtain ⟨s, k, g, m, rfl, ho, hk, hg, hF, q⟩ := hA
  have hun := dx.room.un
  let E (o5 : Option Slot) : Ev := [some (.frz (s.d C)), some (.frz s.plain), some (.frz (.int k)), some (.frz (.int g)), some (.frz (.dic (ksOf m) (xsOf m))), o5, none]
  refine wss_cut (fun ev => (lk m g = none ∧ ev = E (some (.prv .non))) ∨ ∃ (r : List Int) (q : Addr), lk m g = some r.length ∧ Pos0 r ∧ s.fin k r = g ∧ r.length ≤ 1000 ∧ ev = E (some (.prv (.own q (r.map .int))))) ?_ ?_
  · refine dl_setP dx (by array_get_dec) (by array_get_dec) (by with_unfolding_all rfl) ?_
    refine dl_methR dx hC f3 (by decide) rfl rfl (by with_unfolding_all rfl) ?_
    repeat decreasing_trivial_pre_omega
    refine ⟨rfl, ?_⟩
    refine wal_cons ?_ rfl
    repeat decreasing_trivial_pre_omega
    refine wal_cons ?_ rfl
    repeat decreasing_trivial_pre_omega
    refine wal_nil ⟨s, k, g, rfl, ho, hk, hg, fun kr j l0 hL => ?_⟩
    have he := Fin0.eq hF hL.done ho hk g
    rw [lk_map (f := List.length)] at he
    refine ⟨fun e => .inl ⟨by rw [he, e]; rfl, by with_unfolding_all rfl⟩, fun r q e hb => .inr ⟨r, q, by rw [he, e]; rfl, ?_, ?_, ?_, by with_unfolding_all rfl⟩⟩
    · exact (hL.way _ (lk_mem e)).1
    · exact (hL.way _ (lk_mem e)).2.1
    · omega
  rintro ev (⟨hn, rfl⟩ | ⟨r, qa, hs, hp, hf, hrl, rfl⟩)
  · refine wss_cons ?_
    refine ws_if (WW.wt (ww_or (wt_prv 5 (by with_unfolding_all rfl) (wt_isN ?_))))
    repeat decreasing_trivial_pre_omega
    refine ite_t (wss_cons (ws_ret ?_))
    refine we_and (WE.mono (P := fun d => d = .bl true) (we_prv 5 (by with_unfolding_all rfl) (fun d h => by rw [h]; exact ⟨_, rfl⟩) (we_isN ?_)) ?_)
    · repeat decreasing_trivial_pre_omega
      rfl
    rintro d rfl
    refine ite_t (we_one (we_notInDic (by omega) rfl ?_))
    repeat decreasing_trivial_pre_omega
    refine ⟨ksOf m, xsOf m, .inl (g : Int), rfl, rfl, ?_⟩
    rw [dget_xs, hn]
    exact q
  · refine wss_cons ?_
    refine ws_if (WW.wt (ww_or (wt_prv 5 (by with_unfolding_all rfl) (wt_isN ?_))))
    repeat decreasing_trivial_pre_omega
    refine ite_f (ww_or1 (wt_notInDic (by omega) rfl ?_))
    repeat decreasing_trivial_pre_omega
    refine ⟨ksOf m, xsOf m, .inl (g : Int), rfl, rfl, ?_⟩
    rw [dget_xs, hs]
    refine ite_f (wss_nil (wss_cons ?_))
    have her : (D.own qa (r.map .int)).er = .lst (r.map .int) := by show D.lst (D.erAll _) = _; rw [er_ints0]
    refine ws_if (WW.wt (ww_or (wt_prv 5 (by with_unfolding_all rfl) (wt_not ?_))))
    rw [her]
    repeat decreasing_trivial_pre_omega
    refine ⟨_, "list", _, rfl, rfl, kit_list (d := .lst (r.map .int)) rfl, ?_⟩
    refine ite_f (ww_or1 (wt_prv 5 (by with_unfolding_all rfl) (wt_not ?_)))
    rw [her]
    refine wt_val (dl_all (by assumption) (by assumption) (by array_get_dec) (by array_get_dec) (by with_unfolding_all rfl) (WL.we ?_)) (by with_unfolding_all exact fun _ => rfl)
    refine dl_comp 6 own_l_way_right_0 Vc_l_way_right_0 Gc_l_way_right_0 (by assumption) (by decide +kernel) rfl (by array_get_dec) (by decide +kernel) (by decide +kernel) (by decide +kernel) (by with_unfolding_all exact fun _ => rfl) ?_
    refine dl_name (by assumption) (by array_get_dec) (by array_get_dec) (by with_unfolding_all rfl) ?_
    refine ⟨by rw [List.length_map]; omega, fun i e => e = .bl true, fun i d hi X' dx' hK => ?_, fun es hes hE => ?_⟩
    · rw [List.getElem?_map] at hi
      cases hz : r[i]? with
      | none => rw [hz] at hi; cases hi
      | some c =>
        rw [hz] at hi
        cases hi
        have hc : 0 ≤ c := hp c (List.mem_of_getElem? hz)
        repeat decreasing_trivial_pre_omega
        refine ⟨rfl, _, rfl, ⟨"int", rfl⟩, ?_⟩
        refine ite_t ?_
        repeat decreasing_trivial_pre_omega
        show D.bl (decide (0 ≤ c)) = D.bl true
        rw [decide_eq_true hc]
    have hes2 : es = (List.replicate es.length true).map D.bl := by
      rw [List.map_replicate]
      refine List.eq_replicate_iff.mpr ⟨rfl, fun b hb => ?_⟩
      obtain ⟨i, hi⟩ := List.getElem?_of_mem hb
      exact hE i b hi
    refine ⟨List.replicate es.length true, congrArg D.lst hes2, ?_⟩
    have hall : ((List.replicate es.length true).all id) = true := List.all_eq_true.mpr fun x hx => (List.eq_of_mem_replicate hx)
    show asBl (D.bl ((List.replicate es.length true).all id)) _
    rw [hall]
    refine ite_f (wss_nil (wss_cons ?_))
    refine ws_if (WW.wt (ww_or (wt_prv 5 (by with_unfolding_all rfl) (wt_neI (dl_len (by assumption) (by assumption) (by array_get_dec) (by array_get_dec) (by with_unfolding_all rfl) (dl_name (by assumption) (by array_get_dec) (by array_get_dec) (by with_unfolding_all rfl) ?_))))))
    rw [her]
    refine we_dget (by omega) (by with_unfolding_all exact fun _ _ => rfl) ?_
    repeat decreasing_trivial_pre_omega
    refine ⟨ksOf m, xsOf m, .inl (g : Int), .int (r.length : Nat), rfl, rfl, by rw [dget_xs, hs]; rfl, ?_⟩
    refine ite_nd (fun h => absurd ?_ h) (fun _ => ?_)
    · rw [List.length_map]
    refine ww_or1 (wt_prv 5 (by with_unfolding_all rfl) (wt_neI ?_))
    rw [her]
    repeat decreasing_trivial_pre_omega
    refine ⟨rfl, s, k, r, rfl, ho, hk, hp, by omega, ?_⟩
    repeat decreasing_trivial_pre_omega
    have hL : (natL (s.walk k r))[r.length]? = some (.int (s.fin k r : Nat)) := natL_get (walk_last s r k)
    have hlen : (natL (s.walk k r)).length = r.length + 1 := by rw [natL_len, Sc.walk_len]
    refine ⟨_, atI_last hlen hL, ?_⟩
    repeat decreasing_trivial_pre_omega
    refine ite_nd (fun h => absurd (by rw [hf]) h) (fun _ => ?_)
    refine wss_nil (wss_cons ?_)
    refine dl_clrP dx (by array_get_dec) (by array_get_dec) (by with_unfolding_all rfl) (by with_unfolding_all exact fun h1 => pe_bm0 PySem.F.plainAttrs_list PySem.F.slot_list_clear PySem.F.type_list_clear mt_clear h1) (by with_unfolding_all rfl) ?_
    refine wss_cons ?_
    repeat decreasing_trivial_pre_omega
    exact q
end
end My
set_option Elab.async false
set_option linter.all false
set_option maxRecDepth 100000
set_option autoImplicit false
set_option pp.deepTerms false
set_option pp.deepTerms.threshold 7
set_option pp.maxSteps 1500
set_option maxHeartbeats 1600000
namespace My
open PySem L2 DL
/-- a place in a list of names -/
local macro_rules | `(tactic| array_get_dec) => `(tactic| repeat (first | exact At.z | apply At.s))
/-- one step -/
local macro_rules | `(tactic| decreasing_trivial_pre_omega) => `(tactic| with_reducible first
  | (refine we_int ?_)
  | (refine we_bl ?_)
  | (refine we_non ?_)
  | (refine we_str ?_)
  | (refine dl_name (by assumption) (by array_get_dec) (by array_get_dec) (by with_unfolding_all rfl) ?_)
  | (refine dl_ixOwn (by assumption) (by array_get_dec) (by array_get_dec) (by with_unfolding_all rfl) (by with_unfolding_all exact fun _ _ => rfl) ?_)
  | (refine we_ix (by with_unfolding_all exact fun _ _ => rfl) ?_)
  | (refine WL.we (wl_cat (b := .List _ _) ?_))
  | (refine we_add ?_)
  | (refine we_sub ?_)
  | (refine WL.we (wl_rep (a := .List _ _) ?_)) | (refine wl_rep (a := .List _ _) ?_)
  | (refine we_muls ?_)
  | (refine we_neg ?_)
  | (refine we_mod ?_)
  | (refine we_fdiv ?_)
  | (refine we_pow ?_)
  | (refine we_lt ?_) | (refine we_le ?_) | (refine we_gt ?_) | (refine we_ge ?_)
  | (refine we_lele (by with_unfolding_all rfl) ?_) | (refine wt_lele (by with_unfolding_all rfl) ?_)
  | (refine wt_lt ?_) | (refine wt_le ?_) | (refine wt_gt ?_) | (refine wt_ge ?_) | (refine wt_eqI ?_)
  | (refine wt_neI ?_) | (refine wt_isN ?_) | (refine wt_notN ?_) | (refine we_isN ?_) | (refine we_notN ?_)
  | (refine wa_nil ?_)
  | (refine wa_cons ?_ (by with_unfolding_all rfl))
  | (refine dl_len (by assumption) (by assumption) (by array_get_dec) (by array_get_dec) (by with_unfolding_all rfl) ?_)
  | (refine dl_abs (by assumption) (by assumption) (by array_get_dec) (by array_get_dec) (by with_unfolding_all rfl) ?_)
  | (refine dl_int (by assumption) (by assumption) (by array_get_dec) (by array_get_dec) (by with_unfolding_all rfl) ?_)
  | (refine dl_min (by assumption) (by assumption) (by array_get_dec) (by array_get_dec) (by with_unfolding_all rfl) (by with_unfolding_all rfl) ?_)
  | (refine dl_max (by assumption) (by assumption) (by array_get_dec) (by array_get_dec) (by with_unfolding_all rfl) (by with_unfolding_all rfl) ?_)
  | (refine dl_isi (by assumption) (by assumption) (by array_get_dec) (by array_get_dec) (by with_unfolding_all rfl) (by with_unfolding_all rfl) ?_)
  | (refine dl_all (by assumption) (by assumption) (by array_get_dec) (by array_get_dec) (by with_unfolding_all rfl) ?_)
  | (refine dl_list (by assumption) (by assumption) (by array_get_dec) (by array_get_dec) (by with_unfolding_all rfl) ?_)
  | (refine dl_tuple (by assumption) (by assumption) (by array_get_dec) (by array_get_dec) (by with_unfolding_all rfl) ?_)
  | (refine dl_ty (by assumption) (by assumption) boot_int (by array_get_dec) (by array_get_dec) ?_)
  | (refine dl_ty (by assumption) (by assumption) boot_bool (by array_get_dec) (by array_get_dec) ?_)
  | (refine dl_ty (by assumption) (by assumption) boot_list (by array_get_dec) (by array_get_dec) ?_)
  | (refine dl_pure (by assumption) (by assumption) (by array_get_dec) (by decide) (by with_unfolding_all rfl) (by with_unfolding_all rfl) ?_)
  | (refine dl_bag (by assumption) (by assumption) (by array_get_dec) (by decide) (by with_unfolding_all rfl) (by with_unfolding_all rfl) ?_)
  | (refine dl_glob (d := .int _) (v := .int _) (u := .int _ _) (by assumption) (by array_get_dec) (by assumption) (by with_unfolding_all exact ⟨_, rfl⟩) (by with_unfolding_all rfl) ?_)
  | (refine we_one ?_) | (refine we_eqI ?_) | (refine we_not ?_) | (refine we_and ?_) | (refine we_or ?_)
  | (refine wt_val ?_ (by with_unfolding_all exact fun _ => rfl))
  | (refine WL.we (wl_lst ?_)) | (refine WL.we (wl_slice ?_)) | (refine wl_lst ?_) | (refine wl_slice ?_) | (refine wl_cat ?_)
  | (refine wo_none ?_) | (refine wo_some ?_) | (refine we_tup ?_)
  | (refine wss_nil ?_)
  | (refine ws_ret ?_)
  | (refine ws_if ?_)
  | (refine WW.wt (ww_and ?_)) | (refine WW.wt (ww_or ?_))
  | (refine wt_not ?_)
  | (refine ww_and ?_) | (refine ww_or ?_) | (refine ww_and1 ?_) | (refine ww_or1 ?_)
  | (refine dl_set (by assumption) (by array_get_dec) (by array_get_dec) (by with_unfolding_all rfl) ?_)
  | (refine dl_setIx (by assumption) (by array_get_dec) (by array_get_dec) (by with_unfolding_all rfl) (by with_unfolding_all exact fun _ => rfl) (by with_unfolding_all rfl) (by with_unfolding_all rfl) (by with_unfolding_all rfl) ?_)
  | (refine ite_t ?_) | (refine ite_f ?_)
  | (refine ⟨(by simp : List.length _ ≤ 1000000), ?_⟩)
  | (with_unfolding_all refine ⟨_, rfl, ?_⟩))


def A_sr (C : Addr) (ds : List D) (P : D → Prop) : Prop := ∃ (s : Sc) (k : Nat), ds = [s.d C, s.plain, .int k] ∧ s.Ok ∧ k < s.n ∧ P (.bl true)
section
variable {P : Program} {w : World} {K : PySem.W.Frag} {mg : Str → Option Value} {base : Heap} {f : Addr} {fd : FuncData} {C : Addr}
theorem ok_sr (F : Fun K "_law_start_right" "_law_start_right" s_l_start_right f fd) (bn : NoMg mg BI) (hC : Cls K C) (f1 : FnAt P w K mg base "_law_draw" 1 P_l_draw (spB K 2 A_draw)) (f2 : FnAt P w K mg base "_law_lengths" 1 P_l_lengths (spD K none 2 A_llen)) (f3 : FnAt P w K mg base "_law_way_right" 6 P_l_way_right (spD K none 5 (A_wr C))) (f4 : FnAt P w K mg base "_law_reached" 1 P_l_reached (spD K none 2 A_lreached)) (f5 : FnAt P w K mg base "_law_mixed" 2 P_l_mixed (spB K 2 A_mixed)) (f6 : MeAt P w K mg base C "reached" 5 P_Scale_reached (spRL K [false, false] (A_reachR C))) : FnOk P w K mg base (L2.CX P w) 7 f fd P_l_start_right (spB K 4 (A_sr C)) := by
  refine Fun.okB2 (Vn := V_l_start_right) (L := L_l_start_right) (G := G_l_start_right) F sc_l_start_right v_l_start_right l_l_start_right g_l_start_right fun X b ds Q dx hl hA => ?_
  obtain ⟨s, k, rfl, ho, hk, q⟩ := hA
  have hun := dx.room.un
  have hn1 := ho.n1
  have hn12 := ho.n2
  refine wss_cons ?_
  repeat decreasing_trivial_pre_omega
  refine ⟨rfl, s, k, rfl, ho, hk, fun m hF hnd hml => ?_⟩
  let E (o5 o6 : Option Slot) : Ev := [some (.frz (.ref b)), some (.frz (s.d C)), some (.frz s.plain), some (.frz (.int k)), some (.frz (.dic (ksOf m) (xsOf m))), o5, o6]
  have e0 : (m.map (·.1)).map (fun (z : Nat) => (z : Int)) = m.map fun q => (q.1 : Int) := by rw [List.map_map]; rfl
  refine wss_cut (fun ev => ∃ o5 : Option Slot, ev = E o5 none) ?_ ?_
  · refine ws_if ?_
    repeat decreasing_trivial_pre_omega
    refine ⟨rfl, _, rfl, 2, rfl, by decide, draw_le6 (by decide), fun z h0 h1 => ?_⟩
    repeat decreasing_trivial_pre_omega
    refine ite_d (fun h => ?_) (fun h => wss_nil ⟨none, by with_unfolding_all rfl⟩)
    refine wss_cons ?_
    repeat decreasing_trivial_pre_omega
    refine ⟨rfl, _, rfl, _, rfl, by rw [List.length_map]; show (1 : Int) ≤ (s.n : Int); omega, draw_le6 (by rw [List.length_map]; show (s.n : Int) ≤ 1000000000; omega), fun z h0 h1 => ?_⟩
    rw [List.length_map] at h1
    obtain ⟨g, rfl⟩ := Int.eq_ofNat_of_zero_le h0
    have hg : g < s.n := by
      have : (g : Int) < (s.n : Int) := h1
      omega
    refine wss_cons ?_
    refine ws_if (wt_not ?_)
    repeat decreasing_trivial_pre_omega
    refine ⟨rfl, s, k, g, m, rfl, ho, hk, hg, hF, ?_⟩
    refine ite_f ?_
    exact wss_nil (wss_nil ⟨_, by with_unfolding_all rfl⟩)
  rintro ev ⟨o5, rfl⟩
  refine wss_cut (fun ev => ∃ (l : List Nat) (ms : List Int) (q : Addr), Clo s k l ∧ l.Nodup ∧ ms.Perm (l.map fun (z : Nat) => (z : Int)) ∧ ms.Pairwise (· ≤ ·) ∧ ev = E o5 (some (.prv (.own q (ms.map .int))))) ?_ ?_
  · refine dl_setP dx (by array_get_dec) (by array_get_dec) (by with_unfolding_all rfl) ?_
    refine dl_methR dx hC f6 (by decide) rfl rfl (by with_unfolding_all rfl) ?_
    repeat decreasing_trivial_pre_omega
    refine ⟨rfl, ?_⟩
    refine wal_cons ?_ rfl
    repeat decreasing_trivial_pre_omega
    refine wal_nil ⟨s, k, rfl, ho, hk, fun l ms q h1 h2 h3 h4 => ⟨l, ms, q, h1, h2, h3, h4, by with_unfolding_all rfl⟩⟩
  rintro ev ⟨l, ms, qa, c1, c2, c3, c4, rfl⟩
  refine wss_toOwn 6 (p := qa) (ds := ms.map .int) (by with_unfolding_all rfl) flats_ints ?_
  refine wss_cons ?_
  refine ws_if (WW.wt (ww_or (wt_lend 6 (by with_unfolding_all rfl) (wt_ne (by omega) ?_))))
  refine dl_name (by assumption) (by array_get_dec) (by array_get_dec) (by with_unfolding_all rfl) ?_
  refine WL.we (dl_sortedD dx bn (by array_get_dec) (by array_get_dec) (by with_unfolding_all rfl) ?_)
  refine dl_name (by assumption) (by array_get_dec) (by array_get_dec) (by with_unfolding_all rfl) ?_
  refine ⟨m.map fun q => (q.1 : Int), xsOf m, by rw [List.map_map]; rfl, by rw [List.length_map]; omega, fun ms2 h1 h2 => ?_⟩
  rw [← sorted_same c2 hnd (Clo.iff c1 hF.clo ho hk) c3 (by rw [e0]; exact h1) c4 h2]
  refine ⟨ok_lst, ok_lst, ?_⟩
  rw [D.eq_self ok_lst]
  refine ite_f (ww_or1 (wt_lend 6 (by with_unfolding_all rfl) (wt_ne (by omega) ?_)))
  repeat decreasing_trivial_pre_omega
  refine ⟨rfl, s, k, rfl, ho, hk, fun l3 ms3 d1 d2 d3 d4 => ?_⟩
  rw [← sorted_same c2 d2 (Clo.iff c1 d1 ho hk) c3 d3 c4 d4]
  refine ⟨ok_lst, ok_lst, ?_⟩
  rw [D.eq_self ok_lst]
  refine ite_f (wss_nil (wss_cons ?_))
  refine dl_clear dx (q0 := qa) (ds := ms.map .int) (by array_get_dec) (by array_get_dec) (by with_unfolding_all rfl) (by with_unfolding_all exact fun h1 => pe_bm0 PySem.F.plainAttrs_list PySem.F.slot_list_clear PySem.F.type_list_clear mt_clear h1) (by with_unfolding_all rfl) ?_
  refine wss_cut (fun ev => True) ?_ ?_
  · refine dl_forL 5 (by assumption) (by array_get_dec) (by array_get_dec) (by with_unfolding_all exact fun _ => rfl) ?_
    refine dl_bag (by assumption) (by assumption) (by array_get_dec) (by decide) (by with_unfolding_all rfl) (by with_unfolding_all rfl) ?_
    refine wa_cons (dl_name (by assumption) (by array_get_dec) (by array_get_dec) (by with_unfolding_all rfl) ?_) (by with_unfolding_all rfl)
    refine wa_cons (WL.we (dl_listRg dx bn (by array_get_dec) (by array_get_dec) (by array_get_dec) (by array_get_dec) (by with_unfolding_all rfl) (by with_unfolding_all rfl) ?_)) (by with_unfolding_all rfl)
    repeat decreasing_trivial_pre_omega
    refine ⟨⟨by omega, by rw [List.length_map]; show (s.n : Int) ≤ _; omega⟩, ?_⟩
    refine wa_nil ⟨rfl, _, rfl, _, rfl, by rw [List.length_map, List.length_range, List.length_map]; show (Int.toNat (s.n : Int)) ≤ 1000; omega, fun ys hys => ?_⟩
    refine ⟨fun i ev => ∃ o5 o6 : Option Slot, ev = E o5 o6, ⟨_, _, by with_unfolding_all rfl⟩, ?_, fun ev h => trivial⟩
    rintro i d ev hi ⟨o5, o6, rfl⟩
    obtain ⟨g, hg0, rfl⟩ := List.mem_map.mp (hys.mem_iff.mp (List.mem_of_getElem? hi))
    have hg : g < s.n := by
      have := List.mem_range.mp hg0
      rw [List.length_map] at this
      have h2 : g < Int.toNat (s.n : Int) := this
      omega
    refine wss_cons ?_
    refine ws_if (wt_not ?_)
    repeat decreasing_trivial_pre_omega
    refine ⟨rfl, s, k, g, m, rfl, ho, hk, hg, hF, ?_⟩
    refine ite_f ?_
    exact wss_nil (wss_nil ⟨_, _, rfl⟩)
  · rintro ev -
    refine wss_cons ?_
    repeat decreasing_trivial_pre_omega
    exact q
end
end My
set_option Elab.async false
set_option linter.all false
set_option maxRecDepth 100000
set_option autoImplicit false
set_option pp.deepTerms false
set_option pp.deepTerms.threshold 7
set_option pp.maxSteps 1500
set_option maxHeartbeats 1600000
namespace My
open PySem L2 DL
/-- a place in a list of names -/
local macro_rules | `(tactic| array_get_dec) => `(tactic| repeat (first | exact At.z | apply At.s))
/-- one step -/
local macro_rules | `(tactic| decreasing_trivial_pre_omega) => `(tactic| with_reducible first
  | (refine we_int ?_)
  | (refine we_bl ?_)
  | (refine we_non ?_)
  | (refine we_str ?_)
  | (refine dl_name (by assumption) (by array_get_dec) (by array_get_dec) (by with_unfolding_all rfl) ?_)
  | (refine dl_ixOwn (by assumption) (by array_get_dec) (by array_get_dec) (by with_unfolding_all rfl) (by with_unfolding_all exact fun _ _ => rfl) ?_)
  | (refine we_ix (by with_unfolding_all exact fun _ _ => rfl) ?_)
  | (refine WL.we (wl_cat (b := .List _ _) ?_))
  | (refine we_add ?_)
  | (refine we_sub ?_)
  | (refine WL.we (wl_rep (a := .List _ _) ?_)) | (refine wl_rep (a := .List _ _) ?_)
  | (refine we_muls ?_)
  | (refine we_neg ?_)
  | (refine we_mod ?_)
  | (refine we_fdiv ?_)
  | (refine we_pow ?_)
  | (refine we_lt ?_) | (refine we_le ?_) | (refine we_gt ?_) | (refine we_ge ?_)
  | (refine we_lele (by with_unfolding_all rfl) ?_) | (refine wt_lele (by with_unfolding_all rfl) ?_)
  | (refine wt_lt ?_) | (refine wt_le ?_) | (refine wt_gt ?_) | (refine wt_ge ?_) | (refine wt_eqI ?_)
  | (refine wt_neI ?_) | (refine wt_isN ?_) | (refine wt_notN ?_) | (refine we_isN ?_) | (refine we_notN ?_)
  | (refine wa_nil ?_)
  | (refine wa_cons ?_ (by with_unfolding_all rfl))
  | (refine dl_len (by assumption) (by assumption) (by array_get_dec) (by array_get_dec) (by with_unfolding_all rfl) ?_)
  | (refine dl_abs (by assumption) (by assumption) (by array_get_dec) (by array_get_dec) (by with_unfolding_all rfl) ?_)
  | (refine dl_int (by assumption) (by assumption) (by array_get_dec) (by array_get_dec) (by with_unfolding_all rfl) ?_)
  | (refine dl_min (by assumption) (by assumption) (by array_get_dec) (by array_get_dec) (by with_unfolding_all rfl) (by with_unfolding_all rfl) ?_)
  | (refine dl_max (by assumption) (by assumption) (by array_get_dec) (by array_get_dec) (by with_unfolding_all rfl) (by with_unfolding_all rfl) ?_)
  | (refine dl_isi (by assumption) (by assumption) (by array_get_dec) (by array_get_dec) (by with_unfolding_all rfl) (by with_unfolding_all rfl) ?_)
  | (refine dl_all (by assumption) (by assumption) (by array_get_dec) (by array_get_dec) (by with_unfolding_all rfl) ?_)
  | (refine dl_list (by assumption) (by assumption) (by array_get_dec) (by array_get_dec) (by with_unfolding_all rfl) ?_)
  | (refine dl_tuple (by assumption) (by assumption) (by array_get_dec) (by array_get_dec) (by with_unfolding_all rfl) ?_)
  | (refine dl_ty (by assumption) (by assumption) boot_int (by array_get_dec) (by array_get_dec) ?_)
  | (refine dl_ty (by assumption) (by assumption) boot_bool (by array_get_dec) (by array_get_dec) ?_)
  | (refine dl_ty (by assumption) (by assumption) boot_list (by array_get_dec) (by array_get_dec) ?_)
  | (refine dl_pure (by assumption) (by assumption) (by array_get_dec) (by decide) (by with_unfolding_all rfl) (by with_unfolding_all rfl) ?_)
  | (refine dl_bag (by assumption) (by assumption) (by array_get_dec) (by decide) (by with_unfolding_all rfl) (by with_unfolding_all rfl) ?_)
  | (refine dl_glob (d := .int _) (v := .int _) (u := .int _ _) (by assumption) (by array_get_dec) (by assumption) (by with_unfolding_all exact ⟨_, rfl⟩) (by with_unfolding_all rfl) ?_)
  | (refine we_one ?_) | (refine we_eqI ?_) | (refine we_not ?_) | (refine we_and ?_) | (refine we_or ?_)
  | (refine wt_val ?_ (by with_unfolding_all exact fun _ => rfl))
  | (refine WL.we (wl_lst ?_)) | (refine WL.we (wl_slice ?_)) | (refine wl_lst ?_) | (refine wl_slice ?_) | (refine wl_cat ?_)
  | (refine wo_none ?_) | (refine wo_some ?_) | (refine we_tup ?_)
  | (refine wss_nil ?_)
  | (refine ws_ret ?_)
  | (refine ws_if ?_)
  | (refine WW.wt (ww_and ?_)) | (refine WW.wt (ww_or ?_))
  | (refine wt_not ?_)
  | (refine ww_and ?_) | (refine ww_or ?_) | (refine ww_and1 ?_) | (refine ww_or1 ?_)
  | (refine dl_set (by assumption) (by array_get_dec) (by array_get_dec) (by with_unfolding_all rfl) ?_)
  | (refine dl_setIx (by assumption) (by array_get_dec) (by array_get_dec) (by with_unfolding_all rfl) (by with_unfolding_all exact fun _ => rfl) (by with_unfolding_all rfl) (by with_unfolding_all rfl) (by with_unfolding_all rfl) ?_)
  | (refine ite_t ?_) | (refine ite_f ?_)
  | (refine ⟨(by simp : List.length _ ≤ 1000000), ?_⟩)
  | (with_unfolding_all refine ⟨_, rfl, ?_⟩))


/-! ### the law -/
def spBg (K : PySem.W.Frag) : Sp := fun vs H Q _ => ∃ (a : Addr) (ns : List Int), vs = [.ref a] ∧ SqL K H a (ns.map V.int) ∧
  ∀ b l H', H l = none → upd H l (.lst (ns.map V.int)) b = none → H' = upd (upd H l (.lst (ns.map V.int))) b (.lst [.ref l, .int 0, .int 0, .int 17, .int 0]) → Q (.ref b) H'
def spLaw (K : PySem.W.Frag) : Sp := fun vs H Q _ => ∃ (a : Addr) (ns : List Int), vs = [.ref a] ∧ SqL K H a (ns.map V.int) ∧ (∀ z ∈ ns, z.natAbs < 2 ^ 1090000) ∧ ∀ H', Q (.bl true) H'

section
variable {P : Program} {w : World} {K : PySem.W.Frag} {mg : Str → Option Value} {base : Heap} {f : Addr} {fd : FuncData}
theorem rest_law {X : Cx} {a : Addr} {b : Mem} {C : Addr} {Q : D → Prop} (bn : NoMg mg BI) (hC : Cls K C) (f1 : FnAt P w K mg base "_law_draw" 1 P_l_draw (spB K 2 A_draw)) (f2 : FnAt P w K mg base "_law_scale" 2 P_l_scale (spB K 3 A_lsc)) (f3 : FnAt P w K mg base "_law_made" 7 P_l_made (spD K none 1 (A_made C))) (f4 : FnAt P w K mg base "_law_mixed" 2 P_l_mixed (spB K 2 A_mixed)) (f5 : FnAt P w K mg base "_law_start_right" 7 P_l_start_right (spB K 4 (A_sr C))) (f6 : FnAt P w K mg base "_law_like" 2 P_l_like (spD K none 2 (A_like C))) 
    (dx : DX X P w K mg base N_law V_law L_law G_law (defScope s_law) 8) (q : Q (.bl true)) :
    WSs X (some b) ((envOf N_law [.ref a]).set 1 (some (.frz (.ref b)))) (defBody s_law).tail { nx := fun _ => False, rt := fun d _ => Q d } := by
  have hun := dx.room.un
  refine wss_cut (fun ev => ∃ s0 s1 : Sc, s0.Ok ∧ s1.Ok ∧ ev = [some (.frz (.ref a)), some (.frz (.ref b)), some (.frz (.lst [s0.plain, s1.plain])), none, none, none, none, none, none]) ?_ ?_
  · refine dl_set (by assumption) (by array_get_dec) (by array_get_dec) (by with_unfolding_all rfl) (WL.we ?_)
    repeat decreasing_trivial_pre_omega
    refine ⟨rfl, _, rfl, 12, 5, rfl, ⟨by decide, by decide⟩, ⟨by decide, by decide⟩, fun p t hg => ?_⟩
    obtain ⟨s0, h0, rfl, rfl, _⟩ := good_sc hg
    repeat decreasing_trivial_pre_omega
    refine ⟨rfl, _, rfl, 2, rfl, by decide, draw_le6 (by decide), fun z hz0 hz1 => ?_⟩
    repeat decreasing_trivial_pre_omega
    refine at_all hz0 hz1 fun sz hsz => ?_
    obtain ⟨sz, rfl, hs0, hs1⟩ : ∃ z : Int, sz = .int z ∧ 1 ≤ z ∧ z ≤ 12 := by
      simp only [List.mem_cons, List.not_mem_nil, or_false] at hsz
      rcases hsz with rfl | rfl
      · exact ⟨_, rfl, by decide, by decide⟩
      · exact ⟨_, rfl, by decide, by decide⟩
    repeat decreasing_trivial_pre_omega
    refine ⟨rfl, _, rfl, sz, 5, rfl, ⟨hs0, hs1⟩, ⟨by decide, by decide⟩, fun p t hg => ?_⟩
    obtain ⟨s1, h1, rfl, rfl, _⟩ := good_sc hg
    repeat decreasing_trivial_pre_omega
    exact ⟨s0, s1, h0, h1, by with_unfolding_all rfl⟩
  rintro ev ⟨s0, s1, h0, h1, rfl⟩
  have hn0 := h0.n2
  have hn1 := h1.n2
  let E (o4 o5 o6 o7 : Option Slot) : Ev := [some (.frz (.ref a)), some (.frz (.ref b)), some (.frz (.lst [s0.plain, s1.plain])), some (.frz (.lst [s0.d C, s1.d C])), o4, o5, o6, o7, none]
  have sc : ∀ i : Nat, i < 2 → ∃ s : Sc, s.Ok ∧ [s0.plain, s1.plain][i]? = some s.plain ∧ [s0.d C, s1.d C][i]? = some (s.d C) := fun i hi => by
    have : i = 0 ∨ i = 1 := by omega
    rcases this with rfl | rfl
    · exact ⟨s0, h0, rfl, rfl⟩
    · exact ⟨s1, h1, rfl, rfl⟩
  refine wss_cut (fun ev => ev = E none none none none) ?_ ?_
  · refine dl_setComp 8 own_law_0 Vc_law_0 Gc_law_0 (by assumption) (by array_get_dec) rfl rfl rfl rfl (by decide +kernel) rfl (by array_get_dec) (by decide +kernel) (by decide +kernel) (by decide +kernel) (by with_unfolding_all exact fun _ => rfl) ?_
    refine dl_name (by assumption) (by array_get_dec) (by array_get_dec) (by with_unfolding_all rfl) ?_
    refine ⟨by simp, fun i e => [s0.d C, s1.d C][i]? = some e, fun i d hi X' dx' hK => ?_, fun es hes hE => ?_⟩
    · have hi2 : i < 2 := (List.getElem?_eq_some_iff.mp hi).1
      obtain ⟨s, hs, e1, e2⟩ := sc i hi2
      rw [e1] at hi
      cases hi
      repeat decreasing_trivial_pre_omega
      exact ⟨rfl, s, rfl, hs, e2⟩
    · rw [same_all (ds := [s0.d C, s1.d C]) hes hE]
      with_unfolding_all rfl
  rintro ev rfl
  refine wss_cons ?_
  refine dl_set (by assumption) (by array_get_dec) (by array_get_dec) (by with_unfolding_all rfl) (WL.we ?_)
  repeat decreasing_trivial_pre_omega
  let Good1 (e : D) : Prop := ∃ (u v : Nat) (s : Sc), e = .tup [.int u, .int v] ∧ s.Ok ∧ [s0.plain, s1.plain][u]? = some s.plain ∧ [s0.d C, s1.d C][u]? = some (s.d C) ∧ v < s.n
  refine wss_cut (fun ev => ∃ (sts : List D) (o5 : Option Slot), (∀ e ∈ sts, Good1 e) ∧ sts.length ≤ 24 ∧ ev = E (some (.frz (.lst sts))) o5 none none) ?_ ?_
  · refine dl_forR 5 (by assumption) (by assumption) (by array_get_dec) (by array_get_dec) (by array_get_dec) (by array_get_dec) (by with_unfolding_all rfl) (by with_unfolding_all exact fun _ => rfl) ?_
    repeat decreasing_trivial_pre_omega
    refine ⟨⟨by decide, by decide⟩, fun i ev => ∃ (sts : List D) (o5 : Option Slot), (∀ e ∈ sts, Good1 e) ∧ sts.length ≤ 12 * i ∧ ev = E (some (.frz (.lst sts))) o5 none none, ⟨[], none, (fun e he => nomatch he), Nat.zero_le _, by with_unfolding_all rfl⟩, ?_, fun ev ⟨sts, o5, h1, h2, h3⟩ => ⟨sts, o5, h1, h2, h3⟩⟩
    rintro i ev hi ⟨sts, o5, hst, hsl, rfl⟩
    have hi2 : i < 2 := by omega
    obtain ⟨s, hs, e1, e2⟩ := sc i hi2
    have hn := hs.n2
    refine wss_cons ?_
    refine dl_set (by assumption) (by array_get_dec) (by array_get_dec) (by with_unfolding_all rfl) (WL.we (wl_cat ?_))
    refine dl_name (by assumption) (by array_get_dec) (by array_get_dec) (by with_unfolding_all rfl) (WL.we ?_)
    refine dl_compR 7 own_law_1 Vc_law_1 Gc_law_1 (by assumption) (by assumption) (by decide +kernel) rfl (by array_get_dec) (by decide +kernel) (by decide +kernel) (by decide +kernel) (by array_get_dec) (by array_get_dec) (by with_unfolding_all rfl) (by with_unfolding_all exact fun _ => rfl) ?_
    repeat decreasing_trivial_pre_omega
    refine ⟨_, atI_nat e1, ?_⟩
    repeat decreasing_trivial_pre_omega
    refine ⟨⟨by omega, by rw [List.length_map]; show (s.n : Int) ≤ _; omega⟩, fun j e => Good1 e, fun j hj X' dx' hK => ?_, fun es hes hE => ?_⟩
    · rw [List.length_map] at hj
      have hj2 : j < s.n := by
        have : (j : Int) < (s.n : Int) := hj
        omega
      repeat decreasing_trivial_pre_omega
      exact ⟨i, j, s, rfl, hs, e1, e2, hj2⟩
    · rw [List.length_map] at hes
      have hes2 : es.length = s.n := by rw [hes]; show Int.toNat (s.n : Int) = _; omega
      refine ⟨by omega, ?_⟩
      refine wss_nil ⟨sts ++ es, some (.frz (.int i)), fun e he => ?_, by rw [List.length_append]; omega, by with_unfolding_all rfl⟩
      rcases List.mem_append.mp he with he | he
      · exact hst e he
      · obtain ⟨j, hj⟩ := List.getElem?_of_mem he
        exact hE j e hj
  rintro ev ⟨sts, o5, hst, hsl, rfl⟩
  refine wss_cut (fun ev => ∃ o5 o6 o7 : Option Slot, ev = E (some (.frz (.lst sts))) o5 o6 o7) ?_ ?_
  · refine dl_forR 6 (by assumption) (by assumption) (by array_get_dec) (by array_get_dec) (by array_get_dec) (by array_get_dec) (by with_unfolding_all rfl) (by with_unfolding_all exact fun _ => rfl) ?_
    repeat decreasing_trivial_pre_omega
    refine ⟨⟨by decide, by decide⟩, fun i ev => ∃ o5 o6 o7 : Option Slot, ev = E (some (.frz (.lst sts))) o5 o6 o7, ⟨_, _, _, rfl⟩, ?_, fun ev h => h⟩
    rintro i ev hi ⟨o5, o6, o7, rfl⟩
    refine wss_cons ?_
    refine dl_for2 5 7 dx (by array_get_dec) (by array_get_dec) (by array_get_dec) (by array_get_dec) (by with_unfolding_all exact fun _ => rfl) ?_
    repeat decreasing_trivial_pre_omega
    refine ⟨rfl, _, rfl, sts, rfl, by omega, fun ys hys => ?_⟩
    refine ⟨fun i ev => ∃ o5 o6 o7 : Option Slot, ev = E (some (.frz (.lst sts))) o5 o6 o7, ⟨_, _, _, by with_unfolding_all rfl⟩, ?_, fun ev h => wss_nil h⟩
    rintro j d ev hj ⟨o5, o6, o7, rfl⟩
    obtain ⟨u, v, s, rfl, hs, e1, e2, hv⟩ := hst d (hys.mem_iff.mp (List.mem_of_getElem? hj))
    refine ⟨_, _, rfl, ?_⟩
    refine wss_cons ?_
    refine ws_if (wt_not ?_)
    repeat decreasing_trivial_pre_omega
    refine ⟨_, atI_nat e2, ?_⟩
    repeat decreasing_trivial_pre_omega
    refine ⟨_, atI_nat e1, ?_⟩
    repeat decreasing_trivial_pre_omega
    refine ⟨rfl, _, rfl, s, v, rfl, hs, hv, ?_⟩
    refine ite_f ?_
    exact wss_nil (wss_nil ⟨_, _, _, by with_unfolding_all rfl⟩)
  rintro ev ⟨o5, o6, o7, rfl⟩
  refine wss_cons ?_
  repeat decreasing_trivial_pre_omega
  refine ⟨rfl, s0, rfl, h0, ?_⟩
  repeat decreasing_trivial_pre_omega
  exact ⟨rfl, s1, rfl, h1, q⟩
theorem ok_bag0 (F : Fun K "_law_bag" "_law_bag" s_l_bag f fd) (bn : NoMg mg BI) : FnOk P w K mg base (L2.CX P w) 1 f fd P_l_bag (spBg K) := by
  refine F.okX sc_l_bag (fun vs H Q E h => ?_) fun cdv Ar outer s H vs Q E hr h => ⟨_, pss_one (ps_ret (pe_lst (pa_cons (pe_callTy call_list_of rfl (bn "list" (by decide)) boot_list (pa_cons (pe_var (i := 0) rfl (Or.inl rfl)) pa_nil)) (pa_cons pe_int (pa_cons pe_int (pa_cons pe_int (pa_cons pe_int pa_nil))))))), ?_⟩
  · obtain ⟨a, ns, rfl, _⟩ := h
    rfl
  · obtain ⟨a, ns, rfl, hs, q⟩ := h
    refine ⟨.ref a, rfl, a, ns.map V.int, rfl, .inl hs, fun l hl => ?_⟩
    refine ⟨(by show 5 ≤ sizeLine; decide), fun b hb => q b l _ hl hb rfl⟩
theorem ok_law0 {C : Addr} (F : Fun K "law" "law" s_law f fd) (bn : NoMg mg BI) (hC : Cls K C) (f0 : FnAt P w K mg base "_law_bag" 1 P_l_bag (spBg K)) (f1 : FnAt P w K mg base "_law_draw" 1 P_l_draw (spB K 2 A_draw)) (f2 : FnAt P w K mg base "_law_scale" 2 P_l_scale (spB K 3 A_lsc)) (f3 : FnAt P w K mg base "_law_made" 7 P_l_made (spD K none 1 (A_made C))) (f4 : FnAt P w K mg base "_law_mixed" 2 P_l_mixed (spB K 2 A_mixed)) (f5 : FnAt P w K mg base "_law_start_right" 7 P_l_start_right (spB K 4 (A_sr C))) (f6 : FnAt P w K mg base "_law_like" 2 P_l_like (spD K none 2 (A_like C))) : FnOk P w K mg base (L2.CX P w) 9 f fd P_law (spLaw K) := by
  obtain ⟨fB, fdB, FB, hmB, hkB, hbB⟩ := f0.ex
  refine F.okX sc_law (fun vs H Q E h => ?_) fun cdv Ar outer s H vs Q E hr h => ⟨_, pss_cons (ps_set (i := 1) sc_law.nd rfl (by first | exact Or.inl rfl | exact Or.inr rfl) (pe_call FB (hr.mono (by decide)) rfl hmB hkB hbB .nil passL (pa_cons (pe_var (i := 0) rfl (Or.inl rfl)) pa_nil))) (pss_can (st := (defBody s_law).tail)), ?_⟩
  · obtain ⟨a, ns, rfl, _⟩ := h
    rfl
  · obtain ⟨a, ns, rfl, hs, hns, q⟩ := h
    refine ⟨.ref a, rfl, a, ns, rfl, hs, fun b l H' hl hb e => ?_⟩
    subst e
    have hbl : b ≠ l := fun z => by subst z; rw [upd_same] at hb; cases hb
    let M : Mem := ⟨b, l, ns⟩
    have gd : Good K (some M) (fun _ => none) (upd (upd H l (.lst (ns.map V.int))) b (.lst [.ref l, .int 0, .int 0, .int 17, .int 0])) := ⟨(fun _ _ z => nomatch z), fun c hc => by
      cases hc
      exact ⟨⟨rfl, rfl⟩, 0, 0, 17, 0, hbl, upd_same, by rw [show M.l = l from rfl, upd_ne (Ne.symm hbl), upd_same], Int.le_refl 0, Nat.pow_pos (by decide), hns⟩⟩
    refine (rest_law (b := M) (Q := fun d => d = .bl true) bn hC f1 f2 f3 f4 f5 f6 (dx_of (x := "law") sc_law v_law l_law g_law hr) rfl).run _ (fun _ => none) _ (fun _ => none) (fun _ => none) _ _ (fun _ _ _ _ => False) ⟨.refl gd, Envs.frz (envs_start (.cons (.ref a) .nil)) (.ref b), Same.refl _⟩ ?_
    refine ⟨fun _ _ _ _ _ z => z.elim, fun v d σ env F' H' s' hv e => by subst e; cases hv; exact q H', fun _ _ _ _ _ z => z.elim, fun _ _ _ _ _ z => z.elim, takes0, fun _ _ _ _ _ _ _ _ _ z => z.elim, fun _ _ _ _ _ _ _ _ _ z => z.elim⟩
end
end My
set_option Elab.async false
set_option linter.all false
set_option maxRecDepth 100000
set_option autoImplicit false
set_option pp.deepTerms false
set_option pp.deepTerms.threshold 7
set_option pp.maxSteps 3000
set_option maxHeartbeats 8000000
namespace My
open PySem L2 DL PyProof.Rows
/-! ### the end -/
theorem exm_is {K : PySem.W.Frag} {S T : Addr} {r : Bool} (h1 : PySem.W.subIn K (.ref T) (.type "BaseException") = some true) (h2 : PySem.W.isClsIn K T = true) (h3 : PySem.W.typeIn K (.ref T) = some (.type "type")) (h4 : PySem.W.subIn K (.ref S) (.ref T) = some r) : PySem.W.exmOne K (.ref S) (.ref T) = some r := by
  have e1 : (PySem.W.subIn K (.ref T) (.type "BaseException") == some true) = true := by rw [h1]; rfl
  have e2 : ((PySem.W.clsIn K T).isSome && PySem.W.typeIn K (.ref T) == some (.type "type")) = true := by
    have h2' : (PySem.W.clsIn K T).isSome = true := h2
    rw [h2', h3]; rfl
  unfold PySem.W.exmOne PySem.W.kitCls
  rw [if_pos e1]
  exact (if_pos e2).trans h4
theorem kit_is {K : PySem.W.Frag} {S T : Addr} (h2 : PySem.W.isClsIn K T = true) (h3 : PySem.W.typeIn K (.ref T) = some (.type "type")) (h4 : PySem.W.subIn K (.ref S) (.ref T) = some true) : PySem.W.kitOne K (.ref S) (.ref T) = some true := by
  have e2 : ((PySem.W.clsIn K T).isSome && PySem.W.typeIn K (.ref T) == some (.type "type")) = true := by
    have h2' : (PySem.W.clsIn K T).isSome = true := h2
    rw [h2', h3]; rfl
  unfold PySem.W.kitOne
  split
  · rfl
  · unfold PySem.W.kitCls
    exact (if_pos e2).trans h4
theorem all_mk {l : PySem.W.OpenLaw} {w : World} {K : PySem.W.Frag} {h : Heap} {mg : Str → Option Value} {fa C BP f1 f2 f3 f4 f5 f6 f7 f8 f9 f10 f11 f12 f13 f14 f15 f16 f17 f18 f19 f20 f21 f22 f23 f24 f25 f26 f27 : Addr} (X : K.In h) (G : h.Ns mainGlobals mg) (hfa : mg "law" = some (.ref fa))
    {od1 an1 od2 an2 od3 an3 od4 an4 od5 an5 od6 an6 od7 an7 od8 an8 od9 an9 od10 an10 od11 an11 od12 an12 od13 an13 od14 an14 od15 an15 od16 an16 od17 an17 od18 an18 od19 an19 od20 an20 od21 an21 od22 an22 od23 an23 od24 an24 od25 an25 od26 an26 od27 an27 : Option Addr} {sl1 sl2 sl3 sl4 sl5 sl6 sl7 sl8 sl9 sl10 sl11 sl12 sl13 sl14 sl15 sl16 sl17 sl18 sl19 sl20 sl21 sl22 sl23 sl24 sl25 sl26 sl27 : Array (Option Value)} {oc1 kV1 dc1 pm1 cd1 ct1 oc2 kV2 dc2 pm2 cd2 ct2 oc3 kV3 dc3 pm3 cd3 ct3 oc4 kV4 dc4 pm4 cd4 ct4 oc5 kV5 dc5 pm5 cd5 ct5 oc6 kV6 dc6 pm6 cd6 ct6 oc7 kV7 dc7 pm7 cd7 ct7 oc8 kV8 dc8 pm8 cd8 ct8 oc9 kV9 dc9 pm9 cd9 ct9 oc10 kV10 dc10 pm10 cd10 ct10 oc11 kV11 dc11 pm11 cd11 ct11 oc12 kV12 dc12 pm12 cd12 ct12 oc13 kV13 dc13 pm13 cd13 ct13 oc14 kV14 dc14 pm14 cd14 ct14 oc15 kV15 dc15 pm15 cd15 ct15 oc16 kV16 dc16 pm16 cd16 ct16 oc17 kV17 dc17 pm17 cd17 ct17 oc18 kV18 dc18 pm18 cd18 ct18 oc19 kV19 dc19 pm19 cd19 ct19 oc20 kV20 dc20 pm20 cd20 ct20 oc21 kV21 dc21 pm21 cd21 ct21 oc22 kV22 dc22 pm22 cd22 ct22 oc23 kV23 dc23 pm23 cd23 ct23 oc24 kV24 dc24 pm24 cd24 ct24 oc25 kV25 dc25 pm25 cd25 ct25 oc26 kV26 dc26 pm26 cd26 ct26 oc27 kV27 dc27 pm27 cd27 ct27 : Value} {t1 t2 t3 : Tok}
    (aC : PySem.W.nsIn K mainGlobals "Scale" = some (some (.ref C)))
    (aP : PySem.W.nsIn K mainGlobals "BadPremiums" = some (some (.ref BP)))
    (v1 : PySem.W.nsIn K mainGlobals "MOST_CLASSES" = some (some (.int 12 t1)))
    (v2 : PySem.W.nsIn K mainGlobals "MOST_PREMIUM" = some (some (.int 1000000 t2)))
    (v3 : PySem.W.nsIn K mainGlobals "MOST_COLUMNS" = some (some (.int 5 t3)))
    (a1 : PySem.W.nsIn K mainGlobals "is_integer" = some (some (.ref f1)))
    (l1 : K.lookup f1 = some ⟨oc1, od1, .func (PySem.W.fnOf "is_integer" "is_integer" (defArgs s_p_is_integer) (defBody s_p_is_integer) (defScope s_p_is_integer) .none kV1 dc1 pm1 an1 cd1 ct1), sl1⟩)
    (c1 : PySem.W.codeIn K cd1 "is_integer" = true)
    (k1 : PySem.W.keepIn K (.ref f1) = true)
    (a2 : PySem.W.nsIn K mainGlobals "is_between" = some (some (.ref f2)))
    (l2 : K.lookup f2 = some ⟨oc2, od2, .func (PySem.W.fnOf "is_between" "is_between" (defArgs s_p_is_between) (defBody s_p_is_between) (defScope s_p_is_between) .none kV2 dc2 pm2 an2 cd2 ct2), sl2⟩)
    (c2 : PySem.W.codeIn K cd2 "is_between" = true)
    (k2 : PySem.W.keepIn K (.ref f2) = true)
    (a3 : PySem.W.nsIn K mainGlobals "is_list_of" = some (some (.ref f3)))
    (l3 : K.lookup f3 = some ⟨oc3, od3, .func (PySem.W.fnOf "is_list_of" "is_list_of" (defArgs s_p_is_list_of) (defBody s_p_is_list_of) (defScope s_p_is_list_of) .none kV3 dc3 pm3 an3 cd3 ct3), sl3⟩)
    (c3 : PySem.W.codeIn K cd3 "is_list_of" = true)
    (k3 : PySem.W.keepIn K (.ref f3) = true)
    (a4 : PySem.W.nsIn K mainGlobals "check_premiums" = some (some (.ref f4)))
    (l4 : K.lookup f4 = some ⟨oc4, od4, .func (PySem.W.fnOf "check_premiums" "check_premiums" (defArgs s_p_check_premiums) (defBody s_p_check_premiums) (defScope s_p_check_premiums) .none kV4 dc4 pm4 an4 cd4 ct4), sl4⟩)
    (c4 : PySem.W.codeIn K cd4 "check_premiums" = true)
    (k4 : PySem.W.keepIn K (.ref f4) = true)
    (a5 : PySem.W.nsIn K mainGlobals "check_class" = some (some (.ref f5)))
    (l5 : K.lookup f5 = some ⟨oc5, od5, .func (PySem.W.fnOf "check_class" "check_class" (defArgs s_p_check_class) (defBody s_p_check_class) (defScope s_p_check_class) .none kV5 dc5 pm5 an5 cd5 ct5), sl5⟩)
    (c5 : PySem.W.codeIn K cd5 "check_class" = true)
    (k5 : PySem.W.keepIn K (.ref f5) = true)
    (a6 : PySem.W.nsIn K mainGlobals "is_table" = some (some (.ref f6)))
    (l6 : K.lookup f6 = some ⟨oc6, od6, .func (PySem.W.fnOf "is_table" "is_table" (defArgs s_p_is_table) (defBody s_p_is_table) (defScope s_p_is_table) .none kV6 dc6 pm6 an6 cd6 ct6), sl6⟩)
    (c6 : PySem.W.codeIn K cd6 "is_table" = true)
    (k6 : PySem.W.keepIn K (.ref f6) = true)
    (a7 : PySem.W.nsIn K mainGlobals "shortest_rows" = some (some (.ref f7)))
    (l7 : K.lookup f7 = some ⟨oc7, od7, .func (PySem.W.fnOf "shortest_rows" "shortest_rows" (defArgs s_p_shortest_rows) (defBody s_p_shortest_rows) (defScope s_p_shortest_rows) .none kV7 dc7 pm7 an7 cd7 ct7), sl7⟩)
    (c7 : PySem.W.codeIn K cd7 "shortest_rows" = true)
    (k7 : PySem.W.keepIn K (.ref f7) = true)
    (a8 : PySem.W.nsIn K mainGlobals "_law_bag" = some (some (.ref f8)))
    (l8 : K.lookup f8 = some ⟨oc8, od8, .func (PySem.W.fnOf "_law_bag" "_law_bag" (defArgs s_l_bag) (defBody s_l_bag) (defScope s_l_bag) .none kV8 dc8 pm8 an8 cd8 ct8), sl8⟩)
    (c8 : PySem.W.codeIn K cd8 "_law_bag" = true)
    (k8 : PySem.W.keepIn K (.ref f8) = true)
    (a9 : PySem.W.nsIn K mainGlobals "_law_draw" = some (some (.ref f9)))
    (l9 : K.lookup f9 = some ⟨oc9, od9, .func (PySem.W.fnOf "_law_draw" "_law_draw" (defArgs s_l_draw) (defBody s_l_draw) (defScope s_l_draw) .none kV9 dc9 pm9 an9 cd9 ct9), sl9⟩)
    (c9 : PySem.W.codeIn K cd9 "_law_draw" = true)
    (k9 : PySem.W.keepIn K (.ref f9) = true)
    (a10 : PySem.W.nsIn K mainGlobals "_law_number" = some (some (.ref f10)))
    (l10 : K.lookup f10 = some ⟨oc10, od10, .func (PySem.W.fnOf "_law_number" "_law_number" (defArgs s_l_number) (defBody s_l_number) (defScope s_l_number) .none kV10 dc10 pm10 an10 cd10 ct10), sl10⟩)
    (c10 : PySem.W.codeIn K cd10 "_law_number" = true)
    (k10 : PySem.W.keepIn K (.ref f10) = true)
    (a11 : PySem.W.nsIn K mainGlobals "_law_mixed" = some (some (.ref f11)))
    (l11 : K.lookup f11 = some ⟨oc11, od11, .func (PySem.W.fnOf "_law_mixed" "_law_mixed" (defArgs s_l_mixed) (defBody s_l_mixed) (defScope s_l_mixed) .none kV11 dc11 pm11 an11 cd11 ct11), sl11⟩)
    (c11 : PySem.W.codeIn K cd11 "_law_mixed" = true)
    (k11 : PySem.W.keepIn K (.ref f11) = true)
    (a12 : PySem.W.nsIn K mainGlobals "_law_scale" = some (some (.ref f12)))
    (l12 : K.lookup f12 = some ⟨oc12, od12, .func (PySem.W.fnOf "_law_scale" "_law_scale" (defArgs s_l_scale) (defBody s_l_scale) (defScope s_l_scale) .none kV12 dc12 pm12 an12 cd12 ct12), sl12⟩)
    (c12 : PySem.W.codeIn K cd12 "_law_scale" = true)
    (k12 : PySem.W.keepIn K (.ref f12) = true)
    (a13 : PySem.W.nsIn K mainGlobals "_law_made" = some (some (.ref f13)))
    (l13 : K.lookup f13 = some ⟨oc13, od13, .func (PySem.W.fnOf "_law_made" "_law_made" (defArgs s_l_made) (defBody s_l_made) (defScope s_l_made) .none kV13 dc13 pm13 an13 cd13 ct13), sl13⟩)
    (c13 : PySem.W.codeIn K cd13 "_law_made" = true)
    (k13 : PySem.W.keepIn K (.ref f13) = true)
    (a14 : PySem.W.nsIn K mainGlobals "_law_led" = some (some (.ref f14)))
    (l14 : K.lookup f14 = some ⟨oc14, od14, .func (PySem.W.fnOf "_law_led" "_law_led" (defArgs s_l_led) (defBody s_l_led) (defScope s_l_led) .none kV14 dc14 pm14 an14 cd14 ct14), sl14⟩)
    (c14 : PySem.W.codeIn K cd14 "_law_led" = true)
    (k14 : PySem.W.keepIn K (.ref f14) = true)
    (a15 : PySem.W.nsIn K mainGlobals "_law_classes" = some (some (.ref f15)))
    (l15 : K.lookup f15 = some ⟨oc15, od15, .func (PySem.W.fnOf "_law_classes" "_law_classes" (defArgs s_l_classes) (defBody s_l_classes) (defScope s_l_classes) .none kV15 dc15 pm15 an15 cd15 ct15), sl15⟩)
    (c15 : PySem.W.codeIn K cd15 "_law_classes" = true)
    (k15 : PySem.W.keepIn K (.ref f15) = true)
    (a16 : PySem.W.nsIn K mainGlobals "_law_like" = some (some (.ref f16)))
    (l16 : K.lookup f16 = some ⟨oc16, od16, .func (PySem.W.fnOf "_law_like" "_law_like" (defArgs s_l_like) (defBody s_l_like) (defScope s_l_like) .none kV16 dc16 pm16 an16 cd16 ct16), sl16⟩)
    (c16 : PySem.W.codeIn K cd16 "_law_like" = true)
    (k16 : PySem.W.keepIn K (.ref f16) = true)
    (a17 : PySem.W.nsIn K mainGlobals "_law_reached" = some (some (.ref f17)))
    (l17 : K.lookup f17 = some ⟨oc17, od17, .func (PySem.W.fnOf "_law_reached" "_law_reached" (defArgs s_l_reached) (defBody s_l_reached) (defScope s_l_reached) .none kV17 dc17 pm17 an17 cd17 ct17), sl17⟩)
    (c17 : PySem.W.codeIn K cd17 "_law_reached" = true)
    (k17 : PySem.W.keepIn K (.ref f17) = true)
    (a18 : PySem.W.nsIn K mainGlobals "_law_lengths" = some (some (.ref f18)))
    (l18 : K.lookup f18 = some ⟨oc18, od18, .func (PySem.W.fnOf "_law_lengths" "_law_lengths" (defArgs s_l_lengths) (defBody s_l_lengths) (defScope s_l_lengths) .none kV18 dc18 pm18 an18 cd18 ct18), sl18⟩)
    (c18 : PySem.W.codeIn K cd18 "_law_lengths" = true)
    (k18 : PySem.W.keepIn K (.ref f18) = true)
    (a19 : PySem.W.nsIn K mainGlobals "_law_way_right" = some (some (.ref f19)))
    (l19 : K.lookup f19 = some ⟨oc19, od19, .func (PySem.W.fnOf "_law_way_right" "_law_way_right" (defArgs s_l_way_right) (defBody s_l_way_right) (defScope s_l_way_right) .none kV19 dc19 pm19 an19 cd19 ct19), sl19⟩)
    (c19 : PySem.W.codeIn K cd19 "_law_way_right" = true)
    (k19 : PySem.W.keepIn K (.ref f19) = true)
    (a20 : PySem.W.nsIn K mainGlobals "_law_start_right" = some (some (.ref f20)))
    (l20 : K.lookup f20 = some ⟨oc20, od20, .func (PySem.W.fnOf "_law_start_right" "_law_start_right" (defArgs s_l_start_right) (defBody s_l_start_right) (defScope s_l_start_right) .none kV20 dc20 pm20 an20 cd20 ct20), sl20⟩)
    (c20 : PySem.W.codeIn K cd20 "_law_start_right" = true)
    (k20 : PySem.W.keepIn K (.ref f20) = true)
    (a21 : PySem.W.nsIn K mainGlobals "law" = some (some (.ref f21)))
    (l21 : K.lookup f21 = some ⟨oc21, od21, .func (PySem.W.fnOf "law" "law" (defArgs s_law) (defBody s_law) (defScope s_law) .none kV21 dc21 pm21 an21 cd21 ct21), sl21⟩)
    (c21 : PySem.W.codeIn K cd21 "law" = true)
    (k21 : PySem.W.keepIn K (.ref f21) = true)
    (a22 : PySem.W.findIn K (.ref C) "__init__" = some (some (.ref f22)))
    (i22 : PySem.W.isFn K (.ref f22) = true)
    (l22 : K.lookup f22 = some ⟨oc22, od22, .func (PySem.W.fnOf "__init__" "Scale.__init__" (defArgs s_Scale_init) (defBody s_Scale_init) (defScope s_Scale_init) .none kV22 dc22 pm22 an22 cd22 ct22), sl22⟩)
    (c22 : PySem.W.codeIn K cd22 "Scale.__init__" = true)
    (k22 : PySem.W.keepIn K (.ref f22) = true)
    (a23 : PySem.W.findIn K (.ref C) "__contains__" = some (some (.ref f23)))
    (i23 : PySem.W.isFn K (.ref f23) = true)
    (j23 : PySem.W.fnIn K f23 = true)
    (l23 : K.lookup f23 = some ⟨oc23, od23, .func (PySem.W.fnOf "__contains__" "Scale.__contains__" (defArgs s_Scale_contains) (defBody s_Scale_contains) (defScope s_Scale_contains) .none kV23 dc23 pm23 an23 cd23 ct23), sl23⟩)
    (c23 : PySem.W.codeIn K cd23 "Scale.__contains__" = true)
    (k23 : PySem.W.keepIn K (.ref f23) = true)
    (a24 : PySem.W.findIn K (.ref C) "premiums" = some (some (.ref f24)))
    (i24 : PySem.W.isFn K (.ref f24) = true)
    (l24 : K.lookup f24 = some ⟨oc24, od24, .func (PySem.W.fnOf "premiums" "Scale.premiums" (defArgs s_Scale_premiums) (defBody s_Scale_premiums) (defScope s_Scale_premiums) .none kV24 dc24 pm24 an24 cd24 ct24), sl24⟩)
    (c24 : PySem.W.codeIn K cd24 "Scale.premiums" = true)
    (k24 : PySem.W.keepIn K (.ref f24) = true)
    (a25 : PySem.W.findIn K (.ref C) "table" = some (some (.ref f25)))
    (i25 : PySem.W.isFn K (.ref f25) = true)
    (l25 : K.lookup f25 = some ⟨oc25, od25, .func (PySem.W.fnOf "table" "Scale.table" (defArgs s_Scale_table) (defBody s_Scale_table) (defScope s_Scale_table) .none kV25 dc25 pm25 an25 cd25 ct25), sl25⟩)
    (c25 : PySem.W.codeIn K cd25 "Scale.table" = true)
    (k25 : PySem.W.keepIn K (.ref f25) = true)
    (a26 : PySem.W.findIn K (.ref C) "reached" = some (some (.ref f26)))
    (i26 : PySem.W.isFn K (.ref f26) = true)
    (l26 : K.lookup f26 = some ⟨oc26, od26, .func (PySem.W.fnOf "reached" "Scale.reached" (defArgs s_Scale_reached) (defBody s_Scale_reached) (defScope s_Scale_reached) .none kV26 dc26 pm26 an26 cd26 ct26), sl26⟩)
    (c26 : PySem.W.codeIn K cd26 "Scale.reached" = true)
    (k26 : PySem.W.keepIn K (.ref f26) = true)
    (a27 : PySem.W.findIn K (.ref C) "way" = some (some (.ref f27)))
    (i27 : PySem.W.isFn K (.ref f27) = true)
    (l27 : K.lookup f27 = some ⟨oc27, od27, .func (PySem.W.fnOf "way" "Scale.way" (defArgs s_Scale_way) (defBody s_Scale_way) (defScope s_Scale_way) .none kV27 dc27 pm27 an27 cd27 ct27), sl27⟩)
    (c27 : PySem.W.codeIn K cd27 "Scale.way" = true)
    (k27 : PySem.W.keepIn K (.ref f27) = true)
    (pgC : PySem.W.plainGet K C Str.empty = true)
    (hdC : PySem.W.hasDictIn K C = true)
    (poC : PySem.W.plainOver K C = true)
    (saC : PySem.W.findIn K (.ref C) "__setattr__" = some (some (.builtin "object.__setattr__")))
    (mkC : PySem.W.makesIn K C = true)
    (kcC : PySem.W.keepIn K (.ref C) = true)
    (nC_prices : PySem.W.findIn K (.ref C) "prices" = some none)
    (nC_moves : PySem.W.findIn K (.ref C) "moves" = some none)
    (qP : PySem.W.excIn K BP [.type "ValueError", .type "Exception", .type "BaseException", .type "object"] "ValueError.__new__" = true)
    (kpP : PySem.W.keepIn K (.ref BP) = true)
    (sbP : PySem.W.subIn K (.ref BP) (.type "BaseException") = some true)
    (tyP : PySem.W.typeIn K (.ref BP) = some (.type "type"))
    (hgP : PySem.W.findIn K (.ref BP) "__getattribute__" = some (some (.builtin "BaseException.__getattribute__")))
    (hkP : PySem.W.findIn K (.ref BP) "__getattr__" = some none)
    (ddP : PySem.W.hasDictIn K BP = true)
    (haP : PySem.W.findIn K (.ref BP) "__class__" = some (some (.builtin "object.__class__")))
    (hmP : PySem.W.mroIn K BP (.type "object") = some true)
    (icP : PySem.W.isClsIn K BP = true)
    (hn : PySem.W.specialIn K (.builtin "object.__class__") "__get__" = some (some (.builtin "getset_descriptor.__get__")))
    (ht : PySem.W.takesIn K (.builtin "object.__class__") = some true)
    (z1 : PySem.W.nsIn K mainGlobals "len" = some none)
    (z2 : PySem.W.nsIn K mainGlobals "int" = some none)
    (z3 : PySem.W.nsIn K mainGlobals "abs" = some none)
    (z4 : PySem.W.nsIn K mainGlobals "min" = some none)
    (z5 : PySem.W.nsIn K mainGlobals "max" = some none)
    (z6 : PySem.W.nsIn K mainGlobals "range" = some none)
    (z7 : PySem.W.nsIn K mainGlobals "list" = some none)
    (z8 : PySem.W.nsIn K mainGlobals "sum" = some none)
    (z9 : PySem.W.nsIn K mainGlobals "sorted" = some none)
    (z10 : PySem.W.nsIn K mainGlobals "all" = some none)
    (z11 : PySem.W.nsIn K mainGlobals "any" = some none)
    (z12 : PySem.W.nsIn K mainGlobals "isinstance" = some none)
    (z13 : PySem.W.nsIn K mainGlobals "tuple" = some none)
    (z14 : PySem.W.nsIn K mainGlobals "bool" = some none)
    (z15 : PySem.W.nsIn K mainGlobals "enumerate" = some none)
    : ∃ fd : FuncData, (∀ (s : Shared) (v : Value), BindsTo s fd ⟨[v], []⟩ [("_law_script", v)]) ∧ ∀ base : Heap, K.In base → base.Ns mainGlobals mg → FnOk l.prog w K mg base (L2.CX l.prog w) 9 fa fd ["_law_script"] (spLaw K) := by
  have e := hfa.symm.trans (PySem.W.mg_of X G a21)
  cases e
  have bn : NoMg mg BI := fun x hx => by
    simp only [BI, List.mem_cons, List.not_mem_nil, or_false] at hx
    rcases hx with rfl | rfl | rfl | rfl | rfl | rfl | rfl | rfl | rfl | rfl | rfl | rfl | rfl | rfl | rfl
    · exact PySem.W.mg_none_of X G z1
    · exact PySem.W.mg_none_of X G z2
    · exact PySem.W.mg_none_of X G z3
    · exact PySem.W.mg_none_of X G z4
    · exact PySem.W.mg_none_of X G z5
    · exact PySem.W.mg_none_of X G z6
    · exact PySem.W.mg_none_of X G z7
    · exact PySem.W.mg_none_of X G z8
    · exact PySem.W.mg_none_of X G z9
    · exact PySem.W.mg_none_of X G z10
    · exact PySem.W.mg_none_of X G z11
    · exact PySem.W.mg_none_of X G z12
    · exact PySem.W.mg_none_of X G z13
    · exact PySem.W.mg_none_of X G z14
    · exact PySem.W.mg_none_of X G z15
  have F1 := fun_mk (st := s_p_is_integer) l1 c1 k1
  have b1 := F1.binds (ps := P_p_is_integer) fun _ _ _ _ _ _ us hl => match us, hl with | [_], _ => rfl
  have F2 := fun_mk (st := s_p_is_between) l2 c2 k2
  have b2 := F2.binds (ps := P_p_is_between) fun _ _ _ _ _ _ us hl => match us, hl with | [_, _, _], _ => rfl
  have F3 := fun_mk (st := s_p_is_list_of) l3 c3 k3
  have b3 := F3.binds (ps := P_p_is_list_of) fun _ _ _ _ _ _ us hl => match us, hl with | [_, _, _, _], _ => rfl
  have F4 := fun_mk (st := s_p_check_premiums) l4 c4 k4
  have b4 := F4.binds (ps := P_p_check_premiums) fun _ _ _ _ _ _ us hl => match us, hl with | [_], _ => rfl
  have F5 := fun_mk (st := s_p_check_class) l5 c5 k5
  have b5 := F5.binds (ps := P_p_check_class) fun _ _ _ _ _ _ us hl => match us, hl with | [_, _], _ => rfl
  have F6 := fun_mk (st := s_p_is_table) l6 c6 k6
  have b6 := F6.binds (ps := P_p_is_table) fun _ _ _ _ _ _ us hl => match us, hl with | [_, _], _ => rfl
  have F7 := fun_mk (st := s_p_shortest_rows) l7 c7 k7
  have b7 := F7.binds (ps := P_p_shortest_rows) fun _ _ _ _ _ _ us hl => match us, hl with | [_, _], _ => rfl
  have F8 := fun_mk (st := s_l_bag) l8 c8 k8
  have b8 := F8.binds (ps := P_l_bag) fun _ _ _ _ _ _ us hl => match us, hl with | [_], _ => rfl
  have F9 := fun_mk (st := s_l_draw) l9 c9 k9
  have b9 := F9.binds (ps := P_l_draw) fun _ _ _ _ _ _ us hl => match us, hl with | [_, _], _ => rfl
  have F10 := fun_mk (st := s_l_number) l10 c10 k10
  have b10 := F10.binds (ps := P_l_number) fun _ _ _ _ _ _ us hl => match us, hl with | [_], _ => rfl
  have F11 := fun_mk (st := s_l_mixed) l11 c11 k11
  have b11 := F11.binds (ps := P_l_mixed) fun _ _ _ _ _ _ us hl => match us, hl with | [_, _], _ => rfl
  have F12 := fun_mk (st := s_l_scale) l12 c12 k12
  have b12 := F12.binds (ps := P_l_scale) fun _ _ _ _ _ _ us hl => match us, hl with | [_, _, _], _ => rfl
  have F13 := fun_mk (st := s_l_made) l13 c13 k13
  have b13 := F13.binds (ps := P_l_made) fun _ _ _ _ _ _ us hl => match us, hl with | [_], _ => rfl
  have F14 := fun_mk (st := s_l_led) l14 c14 k14
  have b14 := F14.binds (ps := P_l_led) fun _ _ _ _ _ _ us hl => match us, hl with | [_, _, _], _ => rfl
  have F15 := fun_mk (st := s_l_classes) l15 c15 k15
  have b15 := F15.binds (ps := P_l_classes) fun _ _ _ _ _ _ us hl => match us, hl with | [_, _, _], _ => rfl
  have F16 := fun_mk (st := s_l_like) l16 c16 k16
  have b16 := F16.binds (ps := P_l_like) fun _ _ _ _ _ _ us hl => match us, hl with | [_, _], _ => rfl
  have F17 := fun_mk (st := s_l_reached) l17 c17 k17
  have b17 := F17.binds (ps := P_l_reached) fun _ _ _ _ _ _ us hl => match us, hl with | [_, _], _ => rfl
  have F18 := fun_mk (st := s_l_lengths) l18 c18 k18
  have b18 := F18.binds (ps := P_l_lengths) fun _ _ _ _ _ _ us hl => match us, hl with | [_, _], _ => rfl
  have F19 := fun_mk (st := s_l_way_right) l19 c19 k19
  have b19 := F19.binds (ps := P_l_way_right) fun _ _ _ _ _ _ us hl => match us, hl with | [_, _, _, _, _], _ => rfl
  have F20 := fun_mk (st := s_l_start_right) l20 c20 k20
  have b20 := F20.binds (ps := P_l_start_right) fun _ _ _ _ _ _ us hl => match us, hl with | [_, _, _, _], _ => rfl
  have F21 := fun_mk (st := s_law) l21 c21 k21
  have b21 := F21.binds (ps := P_law) fun _ _ _ _ _ _ us hl => match us, hl with | [_], _ => rfl
  have F22 := fun_mk (st := s_Scale_init) l22 c22 k22
  have b22 := F22.binds (ps := P_Scale_init) fun _ _ _ _ _ _ us hl => match us, hl with | [_, _, _], _ => rfl
  have F23 := fun_mk (st := s_Scale_contains) l23 c23 k23
  have b23 := F23.binds (ps := P_Scale_contains) fun _ _ _ _ _ _ us hl => match us, hl with | [_, _], _ => rfl
  have F24 := fun_mk (st := s_Scale_premiums) l24 c24 k24
  have b24 := F24.binds (ps := P_Scale_premiums) fun _ _ _ _ _ _ us hl => match us, hl with | [_], _ => rfl
  have F25 := fun_mk (st := s_Scale_table) l25 c25 k25
  have b25 := F25.binds (ps := P_Scale_table) fun _ _ _ _ _ _ us hl => match us, hl with | [_], _ => rfl
  have F26 := fun_mk (st := s_Scale_reached) l26 c26 k26
  have b26 := F26.binds (ps := P_Scale_reached) fun _ _ _ _ _ _ us hl => match us, hl with | [_, _], _ => rfl
  have F27 := fun_mk (st := s_Scale_way) l27 c27 k27
  have b27 := F27.binds (ps := P_Scale_way) fun _ _ _ _ _ _ us hl => match us, hl with | [_, _, _], _ => rfl
  have erP : ErrAt K mg "BadPremiums" BP := ⟨⟨_, _, _, _, PySem.F.excBase_ValueError, qP⟩, PySem.W.mg_of X G aP, kpP, sbP, tyP⟩
  have exP : ExcC K BP := ⟨hgP, hkP, sbP, ddP, haP, hn, ht, hmP⟩
  have clC : Cls K C := ⟨pgC, hdC, poC, saC⟩
  refine ⟨PySem.W.fnOf "law" "law" (defArgs s_law) (defBody s_law) (defScope s_law) .none kV21 dc21 pm21 an21 cd21 ct21, fun s v => .of_eq rfl, fun base _ _ => ?_⟩
  have A1 : FnAt l.prog w K mg base _ _ _ _ := ⟨_, _, ok_isInt F1 bn, PySem.W.mg_of X G a1, k1, b1⟩
  have A2 : FnAt l.prog w K mg base _ _ _ _ := ⟨_, _, ok_betw F2 bn A1, PySem.W.mg_of X G a2, k2, b2⟩
  have A3 : FnAt l.prog w K mg base _ _ _ _ := ⟨_, _, ok_lstOf F3 bn A2, PySem.W.mg_of X G a3, k3, b3⟩
  have A4 : FnAt l.prog w K mg base _ _ _ _ := ⟨_, _, ok_chkP F4 bn A3 (PySem.W.mg_of X G v1) (PySem.W.mg_of X G v2) erP, PySem.W.mg_of X G a4, k4, b4⟩
  have A6 : FnAt l.prog w K mg base _ _ _ _ := ⟨_, _, ok_tab F6 bn A3 (PySem.W.mg_of X G v3), PySem.W.mg_of X G a6, k6, b6⟩
  have A22 : MkAt l.prog w K mg base "Scale" C 5 _ (spIXL K C [true, true] A_scaleG) := ⟨_, _, ⟨mkC, a22, i22, kcC⟩, ok_scaleL F22 bn A4 A6 clC nC_prices nC_moves, b22, PySem.W.mg_of X G aC⟩
  have A23 : SpAt l.prog w K mg base C _ _ _ _ := ⟨_, _, ok_has F23 bn clC nC_prices A2, a23, i23, j23, b23⟩
  have A5 : FnAt l.prog w K mg base _ _ _ _ := ⟨_, _, ok_cls F5 bn A23, PySem.W.mg_of X G a5, k5, b5⟩
  have S7 := ok_shortR (P := l.prog) (w := w) (mg := mg) (base := base) F7 bn
  have A7 : FnAt l.prog w K mg base _ _ _ _ := ⟨_, _, S7, PySem.W.mg_of X G a7, k7, b7⟩
  have B7 : FnAt l.prog w K mg base "shortest_rows" _ _ _ := ⟨_, _, shortD (A := S7), PySem.W.mg_of X G a7, k7, b7⟩
  have A24 : MeAt l.prog w K mg base C _ _ _ _ := ⟨_, _, plD (A := ok_plR F24 bn clC nC_prices), ⟨a24, i24, k24⟩, b24⟩
  have A25 : MeAt l.prog w K mg base C _ _ _ _ := ⟨_, _, tlD (A := ok_tlR F25 bn clC nC_moves), ⟨a25, i25, k25⟩, b25⟩
  have A26 : MeAt l.prog w K mg base C _ _ _ _ := ⟨_, _, ok_reachR F26 bn clC nC_moves A5 B7, ⟨a26, i26, k26⟩, b26⟩
  have A27 : MeAt l.prog w K mg base C _ _ _ _ := ⟨_, _, ok_wayR F27 bn clC nC_moves A5 A7, ⟨a27, i27, k27⟩, b27⟩
  have A8 : FnAt l.prog w K mg base _ _ _ _ := ⟨_, _, ok_bag0 F8 bn, PySem.W.mg_of X G a8, k8, b8⟩
  have A9 : FnAt l.prog w K mg base _ _ _ _ := ⟨_, _, ok_draw F9 bn, PySem.W.mg_of X G a9, k9, b9⟩
  have A10 : FnAt l.prog w K mg base _ _ _ _ := ⟨_, _, ok_number F10 bn, PySem.W.mg_of X G a10, k10, b10⟩
  have A11 : FnAt l.prog w K mg base _ _ _ _ := ⟨_, _, ok_mixed F11 bn A9, PySem.W.mg_of X G a11, k11, b11⟩
  have A12 : FnAt l.prog w K mg base _ _ _ _ := ⟨_, _, ok_lsc F12 bn A9, PySem.W.mg_of X G a12, k12, b12⟩
  have A13 : FnAt l.prog w K mg base _ _ _ _ := ⟨_, _, ok_made F13 bn A22, PySem.W.mg_of X G a13, k13, b13⟩
  have A14 : FnAt l.prog w K mg base _ _ _ _ := ⟨_, _, ok_lled F14 bn, PySem.W.mg_of X G a14, k14, b14⟩
  have A15 : FnAt l.prog w K mg base _ _ _ _ := ⟨_, _, ok_lcls F15 bn A14, PySem.W.mg_of X G a15, k15, b15⟩
  have A16 : FnAt l.prog w K mg base _ _ _ _ := ⟨_, _, ok_like F16 bn clC A24 A25, PySem.W.mg_of X G a16, k16, b16⟩
  have A17 : FnAt l.prog w K mg base _ _ _ _ := ⟨_, _, ok_lreached F17 bn, PySem.W.mg_of X G a17, k17, b17⟩
  have A18 : FnAt l.prog w K mg base _ _ _ _ := ⟨_, _, llenD (A := ok_llenR F18 bn), PySem.W.mg_of X G a18, k18, b18⟩
  have A19 : FnAt l.prog w K mg base _ _ _ _ := ⟨_, _, ok_wr F19 bn clC A15 A10 A27, PySem.W.mg_of X G a19, k19, b19⟩
  have A20 : FnAt l.prog w K mg base _ _ _ _ := ⟨_, _, ok_sr F20 bn clC A9 A18 A19 A17 A11 A26, PySem.W.mg_of X G a20, k20, b20⟩
  exact ok_law0 F21 bn clC A8 A9 A12 A13 A11 A20 A16
theorem bits_small {z : Int} (h : Builtin.Int.intBits z ≤ 1048576) : z.natAbs < 2 ^ 1090000 := by
  by_cases h0 : z = 0
  · subst h0; exact Nat.pow_pos (by decide)
  · have e : Builtin.Int.intBits z = z.natAbs.log2 + 1 := by
      unfold Builtin.Int.intBits
      rw [if_neg (by simpa using h0)]
    rw [e] at h
    exact Nat.lt_of_lt_of_le Nat.lt_log2_self (Nat.pow_le_pow_right (by decide) (by omega))
theorem walk {l : PySem.W.OpenLaw} {q : Program} {loose : List Str} {XP : (Str → Option Value) → Heap → Prop} {YP : World → Heap → Prop} {d : DefRec} {K : Params → PySem.W.Frag} (hn : l.most = some 63) (hdf : d.params.defaults = [])
    (hY : ∀ (w : World) (h : Heap), YP w h → (K w.params).In h)
    (F : ∀ (w : World) (mg : Str → Option Value) (fa : Addr) (h : Heap), (K w.params).In h → h.Ns mainGlobals mg → mg d.name = some (.ref fa) →
      ∃ fd : FuncData, (∀ (s : Shared) (u : Value), BindsTo s fd ⟨[u], []⟩ [("_law_script", u)]) ∧ ∀ base : Heap, (K w.params).In base → base.Ns mainGlobals mg → FnOk l.prog w (K w.params) mg base (L2.CX l.prog w) 9 fa fd ["_law_script"] (spLaw (K w.params))) :
    PySem.W.WalkO q loose XP YP l.row.toRowW d [] (fun f vs => PySem.call f vs) :=
  L2.walk_ofB (n := 63) (k := 9) (x := "_law_script") (CX := fun w => L2.CX l.prog w) (sp := fun w => spLaw (K w.params)) hn (by decide) hdf ⟨rfl, by decide, by decide⟩ hY F (fun _ _ a ns _ hb _ hS => ⟨a, ns, rfl, hS, fun z hz => bits_small (hb z hz), fun _ => rfl⟩) fun _ _ _ _ _ ⟨_, _, _, _, _, _, _, _, _, _, _, _, z⟩ => z
end My
open PySem PySem.W PyProof.Rows
set_option maxRecDepth 100000 in
set_option maxHeartbeats 0 in
theorem PySem.Challenge.cw_claimclasses_k15_classes_that_are_reache_holds : PySem.Challenge.rw_claimclasses_k15_classes_that_are_reache.Holds := by
  w_on; o_law; k_head; (case hw => w_witness2)
  k_fill
  refine My.walk (l := PySem.Challenge.rw_claimclasses_k15_classes_that_are_reache) rfl rfl (fun w h Y => PySem.W.kIn_of Y) ?F
  case F =>
    intro w mg fa h KX G hmg
    refine' My.all_mk KX G hmg ?aC ?aP ?v1 ?v2 ?v3 ?a1 ?l1 ?c1 ?k1 ?a2 ?l2 ?c2 ?k2 ?a3 ?l3 ?c3 ?k3 ?a4 ?l4 ?c4 ?k4 ?a5 ?l5 ?c5 ?k5 ?a6 ?l6 ?c6 ?k6 ?a7 ?l7 ?c7 ?k7 ?a8 ?l8 ?c8 ?k8 ?a9 ?l9 ?c9 ?k9 ?a10 ?l10 ?c10 ?k10 ?a11 ?l11 ?c11 ?k11 ?a12 ?l12 ?c12 ?k12 ?a13 ?l13 ?c13 ?k13 ?a14 ?l14 ?c14 ?k14 ?a15 ?l15 ?c15 ?k15 ?a16 ?l16 ?c16 ?k16 ?a17 ?l17 ?c17 ?k17 ?a18 ?l18 ?c18 ?k18 ?a19 ?l19 ?c19 ?k19 ?a20 ?l20 ?c20 ?k20 ?a21 ?l21 ?c21 ?k21 ?a22 ?i22 ?l22 ?c22 ?k22 ?a23 ?i23 ?j23 ?l23 ?c23 ?k23 ?a24 ?i24 ?l24 ?c24 ?k24 ?a25 ?i25 ?l25 ?c25 ?k25 ?a26 ?i26 ?l26 ?c26 ?k26 ?a27 ?i27 ?l27 ?c27 ?k27 ?pgC ?hdC ?poC ?saC ?mkC ?kcC ?nC_prices ?nC_moves ?qP ?kpP ?sbP ?tyP ?hgP ?hkP ?ddP ?haP ?hmP ?icP ?hn ?ht ?z1 ?z2 ?z3 ?z4 ?z5 ?z6 ?z7 ?z8 ?z9 ?z10 ?z11 ?z12 ?z13 ?z14 ?z15
    (case aC => k_is)
    (case aP => k_is)
    (case v1 => k_is)
    (case v2 => k_is)
    (case v3 => k_is)
    (case a1 => k_is)
    (case l1 => k_is)
    (case c1 => k_is)
    (case k1 => k_is)
    (case a2 => k_is)
    (case l2 => k_is)
    (case c2 => k_is)
    (case k2 => k_is)
    (case a3 => k_is)
    (case l3 => k_is)
    (case c3 => k_is)
    (case k3 => k_is)
    (case a4 => k_is)
    (case l4 => k_is)
    (case c4 => k_is)
    (case k4 => k_is)
    (case a5 => k_is)
    (case l5 => k_is)
    (case c5 => k_is)
    (case k5 => k_is)
    (case a6 => k_is)
    (case l6 => k_is)
    (case c6 => k_is)
    (case k6 => k_is)
    (case a7 => k_is)
    (case l7 => k_is)
    (case c7 => k_is)
    (case k7 => k_is)
    (case a8 => k_is)
    (case l8 => k_is)
    (case c8 => k_is)
    (case k8 => k_is)
    (case a9 => k_is)
    (case l9 => k_is)
    (case c9 => k_is)
    (case k9 => k_is)
    (case a10 => k_is)
    (case l10 => k_is)
    (case c10 => k_is)
    (case k10 => k_is)
    (case a11 => k_is)
    (case l11 => k_is)
    (case c11 => k_is)
    (case k11 => k_is)
    (case a12 => k_is)
    (case l12 => k_is)
    (case c12 => k_is)
    (case k12 => k_is)
    (case a13 => k_is)
    (case l13 => k_is)
    (case c13 => k_is)
    (case k13 => k_is)
    (case a14 => k_is)
    (case l14 => k_is)
    (case c14 => k_is)
    (case k14 => k_is)
    (case a15 => k_is)
    (case l15 => k_is)
    (case c15 => k_is)
    (case k15 => k_is)
    (case a16 => k_is)
    (case l16 => k_is)
    (case c16 => k_is)
    (case k16 => k_is)
    (case a17 => k_is)
    (case l17 => k_is)
    (case c17 => k_is)
    (case k17 => k_is)
    (case a18 => k_is)
    (case l18 => k_is)
    (case c18 => k_is)
    (case k18 => k_is)
    (case a19 => k_is)
    (case l19 => k_is)
    (case c19 => k_is)
    (case k19 => k_is)
    (case a20 => k_is)
    (case l20 => k_is)
    (case c20 => k_is)
    (case k20 => k_is)
    (case a21 => k_is)
    (case l21 => k_is)
    (case c21 => k_is)
    (case k21 => k_is)
    (case a22 => k_is)
    (case i22 => k_is)
    (case l22 => k_is)
    (case c22 => k_is)
    (case k22 => k_is)
    (case a23 => k_is)
    (case i23 => k_is)
    (case j23 => k_is)
    (case l23 => k_is)
    (case c23 => k_is)
    (case k23 => k_is)
    (case a24 => k_is)
    (case i24 => k_is)
    (case l24 => k_is)
    (case c24 => k_is)
    (case k24 => k_is)
    (case a25 => k_is)
    (case i25 => k_is)
    (case l25 => k_is)
    (case c25 => k_is)
    (case k25 => k_is)
    (case a26 => k_is)
    (case i26 => k_is)
    (case l26 => k_is)
    (case c26 => k_is)
    (case k26 => k_is)
    (case a27 => k_is)
    (case i27 => k_is)
    (case l27 => k_is)
    (case c27 => k_is)
    (case k27 => k_is)
    (case pgC => k_is)
    (case hdC => k_is)
    (case poC => k_is)
    (case saC => k_is)
    (case mkC => k_is)
    (case kcC => k_is)
    (case nC_prices => k_is)
    (case nC_moves => k_is)
    (case qP => k_exc)
    (case kpP => k_is)
    (case sbP => k_is)
    (case tyP => k_is)
    (case hgP => k_is)
    (case hkP => k_is)
    (case ddP => k_is)
    (case haP => k_is)
    (case hmP => k_is)
    (case icP => k_is)
    (case hn => k_is)
    (case ht => k_is)
    (case z1 => k_is)
    (case z2 => k_is)
    (case z3 => k_is)
    (case z4 => k_is)
    (case z5 => k_is)
    (case z6 => k_is)
    (case z7 => k_is)
    (case z8 => k_is)
    (case z9 => k_is)
    (case z10 => k_is)
    (case z11 => k_is)
    (case z12 => k_is)
    (case z13 => k_is)
    (case z14 => k_is)
    (case z15 => k_is)
