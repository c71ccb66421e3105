import PyProof.Rows.All
import HandS.ForMost
import HandS.Gcd
import HandS.Wide
import HandS.WideMore
import HandS.IsInst
import HandS.Zip
import HandS.TupAny
import HandS.Deep
import HandS.Conv
import HandS.Flow
import HandS.Defaults
import HandS.Rev
import HandS.RaiseMore
import PyProof.CallFns
import KE.DataEq
import HandS.Style
import HandS.Sort
import HandS.TupMul
import KE.DataMinMax
import HandS.HeadHook1
import PySem.Challenge.RW_anymargin_k01_whole_simplest_ones_and_st
import KE.KStateDown
import HandS.Head0
import HandS.Head1
import HandS.Head2
import HandS.Head3
import HandS.HeadEnd
import HandS.HeadHook2
import HandS.HeadHook3
import HandS.HeadHook4
section
set_option Elab.async false
set_option linter.all false
set_option maxRecDepth 100000
namespace VL
open PySem PySem.Spec PyProof.Rows L2

/-- a value as it is reckoned with: data; a list that is changed (its number); a list of ints from outside; a range -/
inductive Vw where
  | d (p : PyData)
  | loc (n : Nat)
  | kl (ns : List Int)
  | rg (lo hi : Int)
abbrev Rho := List (Option Vw)
abbrev Mu := List (List PyData)

mutual
def Da (K : PySem.W.Frag) (φ : List Addr) (H : Hp) : PyData → V → Prop
  | .none, v => v = .non
  | .bool b, v => v = .bl b
  | .int i, v => v = .int i
  | .str x, v => v = .str x
  | .list ds, v => ∃ a xs, v = .ref a ∧ a ∉ φ ∧ H a = some (.lst xs) ∧ DaAll K φ H ds xs
  | .tuple ds, v => ∃ a xs, v = .ref a ∧ SqT K H a xs ∧ DaAll K φ H ds xs
  | .dict kvs, v => kvs = [] ∧ ∃ a, v = .ref a ∧ a ∉ φ ∧ H a = some (.dK [])
def DaAll (K : PySem.W.Frag) (φ : List Addr) (H : Hp) : List PyData → List V → Prop
  | [], xs => xs = []
  | d :: ds, xs => ∃ v vs, xs = v :: vs ∧ Da K φ H d v ∧ DaAll K φ H ds vs
end
def KL (K : PySem.W.Frag) (H : Hp) (a : Addr) (xs : List V) : Prop :=
  (∃ o, H a = some (.frz o (.lst xs))) ∨
    ∃ (o : Obj) (its : Array Value) (n : Nat), K.lookup a = some o ∧ o.cls = .type "list" ∧ o.dict = none ∧ o.data = .seq its n ∧ its.size ≤ sizeLine ∧ Vals xs its.toList
theorem KL.sq {K : PySem.W.Frag} {H : Hp} {a : Addr} {xs : List V} (h : KL K H a xs) : SqL K H a xs := by
  rcases h with ⟨o, h⟩ | h
  · exact .inl (.inr ⟨o, h⟩)
  · exact .inr h
/-- places: those to be left alone, those of the changed lists -/
abbrev Ph := List Addr × List Addr
def Ph.av (φ : Ph) : List Addr := φ.1 ++ φ.2
/-- a value as it lies -/
def RV (K : PySem.W.Frag) (φ : Ph) (H : Hp) : Vw → V → Prop
  | .d p, v => Da K φ.av H p v
  | .loc n, v => ∃ a, φ.2[n]? = some a ∧ v = .ref a
  | .kl ns, v => ∃ a, v = .ref a ∧ KL K H a (ns.map V.int)
  | .rg lo hi, v => ∃ a, v = .ref a ∧ H a = some (.rng lo hi)
def RVs (K : PySem.W.Frag) (φ : Ph) (H : Hp) : List Vw → List V → Prop
  | [], xs => xs = []
  | d :: ds, xs => ∃ v vs, xs = v :: vs ∧ RV K φ H d v ∧ RVs K φ H ds vs

/-- what comes later: more changed lists, all else as it was -/
structure Grow (φ φ' : Ph) (H H' : Hp) : Prop where
  fst : ∃ χ, φ'.1 = φ.1 ++ χ ∧ ∀ a ∈ χ, H a = none
  pre : ∃ ψ, φ'.2 = φ.2 ++ ψ ∧ ∀ a ∈ ψ, H a = none
  ext : ∀ a o, H a = some o → (a ∈ φ.2 → ∀ xs, o ≠ .lst xs) → H' a = some o
  live : ∀ a, H' a = none → H a = none
structure Cells (K : PySem.W.Frag) (φ : Ph) (H : Hp) (μ : Mu) : Prop where
  nd : φ.2.Nodup
  len : φ.2.length = μ.length
  at_ : ∀ (n : Nat) (a : Addr) (ds : List PyData), φ.2[n]? = some a → μ[n]? = some ds → ∃ xs, H a = some (.lst xs) ∧ DaAll K φ.av H ds xs
  tr : ∀ a ∈ φ.1, H a ≠ none
structure RS (K : PySem.W.Frag) (φ : Ph) (σ : L2.St) (H : Hp) (ρ : Rho) (μ : Mu) : Prop where
  c : Cells K φ H μ
  len : σ.length = ρ.length
  at_ : ∀ (i : Nat) (w : Vw), ρ[i]? = some (some w) → ∃ v, σ[i]? = some (some v) ∧ RV K φ H w v

section
variable {K : PySem.W.Frag} {φ φ' φ'' : Ph} {A A' : List Addr} {H H' H'' : Hp}
theorem Grow.refl (φ : Ph) (H : Hp) : Grow φ φ H H := ⟨⟨[], by simp, by simp⟩, ⟨[], by simp, by simp⟩, fun _ _ h _ => h, fun _ h => h⟩
theorem Grow.trans (g : Grow φ φ' H H') (g' : Grow φ' φ'' H' H'') : Grow φ φ'' H H'' := by
  obtain ⟨⟨ψ', q1, hψ'⟩, ⟨ψ, p1, hψ⟩, e1, l1⟩ := g
  obtain ⟨⟨χ', q2, hχ'⟩, ⟨χ, p2, hχ⟩, e2, l2⟩ := g'
  refine ⟨⟨ψ' ++ χ', by rw [q2, q1, List.append_assoc], fun a ha => (List.mem_append.mp ha).elim (hψ' a) fun z => l1 a (hχ' a z)⟩, ⟨ψ ++ χ, by rw [p2, p1, List.append_assoc], fun a ha => ?_⟩, fun a o h hn => ?_, fun a h => l1 a (l2 a h)⟩
  · rcases List.mem_append.mp ha with ha | ha
    · exact hψ a ha
    · exact l1 a (hχ a ha)
  · have h1 := e1 a o h hn
    refine e2 a o h1 fun hm => ?_
    rw [p1] at hm
    rcases List.mem_append.mp hm with hm | hm
    · exact hn hm
    · rw [hψ a hm] at h; cases h
/-- a new object is laid -/
theorem Grow.laid {p : Addr} {o : HO} (hp : H p = none) : Grow φ φ H (upd H p o) := by
  refine ⟨⟨[], by simp, by simp⟩, ⟨[], by simp, by simp⟩, fun a u h _ => ?_, fun a h => ?_⟩
  · rw [upd_ne (ne_of_none h hp)]; exact h
  · by_cases e : a = p
    · rw [e]; exact hp
    · rw [upd_ne e] at h; exact h
/-- .. as a changed list -/
theorem Grow.cell {p : Addr} {o : HO} (hp : H p = none) : Grow φ (φ.1, φ.2 ++ [p]) H (upd H p o) := by
  refine ⟨⟨[], by simp, by simp⟩, ⟨[p], rfl, fun a ha => ?_⟩, fun a u h _ => ?_, fun a h => ?_⟩
  · rw [List.mem_singleton.mp ha]; exact hp
  · rw [upd_ne (ne_of_none h hp)]; exact h
  · by_cases e : a = p
    · rw [e]; exact hp
    · rw [upd_ne e] at h; exact h
theorem Grow.rd (g : Grow φ φ' H H') {a : Addr} {o : HO} (h : Rd H a o) (hn : a ∈ φ.2 → ∀ xs, o ≠ .lst xs) : Rd H' a o := by
  rcases h with h | ⟨ob, h⟩
  · exact .inl (g.ext a o h hn)
  · exact .inr ⟨ob, g.ext a _ h fun _ xs z => by cases z⟩
theorem Grow.sqT (g : Grow φ φ' H H') {a : Addr} {xs : List V} (h : SqT K H a xs) : SqT K H' a xs := by
  rcases h with h | h
  · exact .inl (g.rd h fun _ ys z => by cases z)
  · exact .inr h
theorem Grow.kl (g : Grow φ φ' H H') {a : Addr} {xs : List V} (h : KL K H a xs) : KL K H' a xs := by
  rcases h with ⟨o, h⟩ | h
  · exact .inl ⟨o, g.ext a _ h fun _ ys z => by cases z⟩
  · exact .inr h
theorem Grow.out (g : Grow φ φ' H H') {a : Addr} (h : H a ≠ none) (hn : a ∉ φ.av) : a ∉ φ'.av := by
  obtain ⟨⟨χ, f, hχ⟩, ⟨ψ, p, hψ⟩, _, _⟩ := g
  intro hm
  rcases List.mem_append.mp hm with hm | hm
  · rw [f] at hm
    rcases List.mem_append.mp hm with hm | hm
    · exact hn (List.mem_append_left _ hm)
    · exact h (hχ a hm)
  · rw [p] at hm
    rcases List.mem_append.mp hm with hm | hm
    · exact hn (List.mem_append_right _ hm)
    · exact h (hψ a hm)
theorem Grow.out2 (g : Grow φ φ' H H') {a : Addr} (h : H a ≠ none) (hn : a ∉ φ.2) : a ∉ φ'.2 := by
  obtain ⟨f, ⟨ψ, p, hψ⟩, _, _⟩ := g
  intro hm
  rw [p] at hm
  rcases List.mem_append.mp hm with hm | hm
  · exact hn hm
  · exact h (hψ a hm)
theorem av2 {a : Addr} (hn : a ∉ φ.av) : a ∉ φ.2 := fun z => hn (List.mem_append_right _ z)
mutual
theorem Da.step (g : Grow φ φ' H H') : ∀ (p : PyData) (v : V), Da K φ.av H p v → Da K φ'.av H' p v
  | .none, _, h => h
  | .bool _, _, h => h
  | .int _, _, h => h
  | .str _, _, h => h
  | .list ds, _, ⟨a, xs, e, hn, h, hs⟩ => ⟨a, xs, e, g.out (by rw [h]; simp) hn, g.ext a _ h fun z => absurd z (av2 hn), DaAll.step g ds xs hs⟩
  | .tuple ds, _, ⟨a, xs, e, h, hs⟩ => ⟨a, xs, e, g.sqT h, DaAll.step g ds xs hs⟩
  | .dict kvs, _, ⟨z, a, e, hn, h⟩ => ⟨z, a, e, g.out (by rw [h]; simp) hn, g.ext a _ h fun z => absurd z (av2 hn)⟩
theorem DaAll.step (g : Grow φ φ' H H') : ∀ (ds : List PyData) (xs : List V), DaAll K φ.av H ds xs → DaAll K φ'.av H' ds xs
  | [], _, h => h
  | d :: ds, _, ⟨v, vs, e, h, hs⟩ => ⟨v, vs, e, Da.step g d v h, DaAll.step g ds vs hs⟩
end
mutual
theorem Da.weak (hs : ∀ a ∈ A, a ∈ A') : ∀ (p : PyData) (v : V), Da K A' H p v → Da K A H p v
  | .none, _, h => h
  | .bool _, _, h => h
  | .int _, _, h => h
  | .str _, _, h => h
  | .list ds, _, ⟨a, xs, e, hn, h, hq⟩ => ⟨a, xs, e, fun z => hn (hs a z), h, DaAll.weak hs ds xs hq⟩
  | .tuple ds, _, ⟨a, xs, e, h, hq⟩ => ⟨a, xs, e, h, DaAll.weak hs ds xs hq⟩
  | .dict kvs, _, ⟨z, a, e, hn, h⟩ => ⟨z, a, e, fun z => hn (hs a z), h⟩
theorem DaAll.weak (hs : ∀ a ∈ A, a ∈ A') : ∀ (ds : List PyData) (xs : List V), DaAll K A' H ds xs → DaAll K A H ds xs
  | [], _, h => h
  | d :: ds, _, ⟨v, vs, e, h, hq⟩ => ⟨v, vs, e, Da.weak hs d v h, DaAll.weak hs ds vs hq⟩
end
theorem RV.step (g : Grow φ φ' H H') : ∀ (w : Vw) (v : V), RV K φ H w v → RV K φ' H' w v
  | .d p, v, h => Da.step g p v h
  | .loc n, v, ⟨a, h, e⟩ => by
    obtain ⟨_, ⟨ψ, p, _⟩, _, _⟩ := g
    exact ⟨a, by rw [p, List.getElem?_append_left (List.getElem?_eq_some_iff.mp h).1]; exact h, e⟩
  | .kl ns, v, ⟨a, e, h⟩ => ⟨a, e, g.kl h⟩
  | .rg lo hi, v, ⟨a, e, h⟩ => ⟨a, e, g.ext a _ h fun _ ys z => by cases z⟩
theorem RVs.step (g : Grow φ φ' H H') : ∀ (ws : List Vw) (vs : List V), RVs K φ H ws vs → RVs K φ' H' ws vs
  | [], _, h => h
  | w :: ws, _, ⟨v, vs, e, h, hs⟩ => ⟨v, vs, e, RV.step g w v h, RVs.step g ws vs hs⟩
theorem DaAll.len : ∀ {ds : List PyData} {xs : List V}, DaAll K A H ds xs → ds.length = xs.length
  | [], _, h => by rw [show _ = _ from h]; rfl
  | _ :: ds, _, ⟨v, vs, e, _, hs⟩ => by rw [e, List.length_cons, List.length_cons, DaAll.len hs]
theorem DaAll.get : ∀ {ds : List PyData} {xs : List V} {i : Nat} {d : PyData}, DaAll K A H ds xs → ds[i]? = some d → ∃ v, xs[i]? = some v ∧ Da K A H d v
  | [], _, _, _, _, e => by simp at e
  | d :: ds, _, 0, _, ⟨v, vs, e, h, _⟩, q => by
    simp at q; subst q; exact ⟨v, by rw [e]; rfl, h⟩
  | d :: ds, _, i + 1, _, ⟨v, vs, e, _, hs⟩, q => by
    obtain ⟨u, h1, h2⟩ := DaAll.get (i := i) hs (by simpa using q)
    exact ⟨u, by rw [e]; simpa using h1, h2⟩
theorem DaAll.append : ∀ {ds es : List PyData} {xs ys : List V}, DaAll K A H ds xs → DaAll K A H es ys → DaAll K A H (ds ++ es) (xs ++ ys)
  | [], _, _, _, h, h' => by rw [show _ = _ from h]; exact h'
  | _ :: ds, _, _, _, ⟨v, vs, e, h, hs⟩, h' => ⟨v, vs ++ _, by rw [e]; rfl, h, DaAll.append hs h'⟩
theorem DaAll.take : ∀ {ds : List PyData} {xs : List V} (n : Nat), DaAll K A H ds xs → DaAll K A H (ds.take n) (xs.take n)
  | [], _, n, h => by rw [show _ = _ from h]; simp [DaAll]
  | _ :: _, _, 0, ⟨v, vs, e, _, _⟩ => by simp [DaAll]
  | _ :: ds, _, n + 1, ⟨v, vs, e, h, hs⟩ => ⟨v, vs.take n, by rw [e]; rfl, h, DaAll.take n hs⟩
theorem DaAll.drop : ∀ {ds : List PyData} {xs : List V} (n : Nat), DaAll K A H ds xs → DaAll K A H (ds.drop n) (xs.drop n)
  | [], _, n, h => by rw [show _ = _ from h]; simp [DaAll]
  | d :: ds, _, 0, h => h
  | _ :: ds, _, n + 1, ⟨v, vs, e, h, hs⟩ => by rw [e]; exact DaAll.drop n hs
theorem DaAll.set {d : PyData} {v : V} (h : Da K A H d v) : ∀ {ds : List PyData} {xs : List V} (n : Nat), DaAll K A H ds xs → DaAll K A H (ds.set n d) (xs.set n v)
  | [], _, n, hs => by rw [show _ = _ from hs]; simp [DaAll]
  | _ :: _, _, 0, ⟨u, us, e, _, hs⟩ => by rw [e]; exact ⟨v, us, rfl, h, hs⟩
  | _ :: ds, _, n + 1, ⟨u, us, e, hu, hs⟩ => by rw [e]; exact ⟨u, us.set n v, rfl, hu, DaAll.set h n hs⟩
theorem DaAll.ints : ∀ (ns : List Int), DaAll K A H (ns.map PyData.int) (ns.map V.int)
  | [] => rfl
  | n :: ns => ⟨_, _, rfl, rfl, DaAll.ints ns⟩
theorem RVs.len : ∀ {ds : List Vw} {xs : List V}, RVs K φ H ds xs → ds.length = xs.length
  | [], _, h => by rw [show _ = _ from h]; rfl
  | _ :: ds, _, ⟨v, vs, e, _, hs⟩ => by rw [e, List.length_cons, List.length_cons, RVs.len hs]
theorem RVs.get : ∀ {ds : List Vw} {xs : List V} {i : Nat} {d : Vw}, RVs K φ H ds xs → ds[i]? = some d → ∃ v, xs[i]? = some v ∧ RV K φ H d v
  | [], _, _, _, _, e => by simp at e
  | d :: ds, _, 0, _, ⟨v, vs, e, h, _⟩, q => by
    simp at q; subst q; exact ⟨v, by rw [e]; rfl, h⟩
  | d :: ds, _, i + 1, _, ⟨v, vs, e, _, hs⟩, q => by
    obtain ⟨u, h1, h2⟩ := RVs.get (i := i) hs (by simpa using q)
    exact ⟨u, by rw [e]; simpa using h1, h2⟩
/-! a list that is left alone is written -/
mutual
theorem Da.wr {D : Addr} {zs ys : List V} (hD : D ∈ A) (hl : H D = some (.lst zs)) : ∀ (p : PyData) (v : V), Da K A H p v → Da K A (L2.upd H D (.lst ys)) p v
  | .none, _, h => h
  | .bool _, _, h => h
  | .int _, _, h => h
  | .str _, _, h => h
  | .list ds, _, ⟨a, xs, e, hn, h, hs⟩ => ⟨a, xs, e, hn, by rw [L2.upd_ne (show a ≠ D from fun z => hn (by rw [z]; exact hD))]; exact h, DaAll.wr hD hl ds xs hs⟩
  | .tuple ds, _, ⟨a, xs, e, h, hs⟩ => ⟨a, xs, e, by
      rcases h with (h | ⟨o, h⟩) | h
      · exact .inl (.inl (by rw [upd_ne (fun z => by subst z; rw [hl] at h; cases h)]; exact h))
      · exact .inl (.inr ⟨o, by rw [upd_ne (fun z => by subst z; rw [hl] at h; cases h)]; exact h⟩)
      · exact .inr h, DaAll.wr hD hl ds xs hs⟩
  | .dict kvs, _, ⟨z, a, e, hn, h⟩ => ⟨z, a, e, hn, by rw [L2.upd_ne (show a ≠ D from fun z => hn (by rw [z]; exact hD))]; exact h⟩
theorem DaAll.wr {D : Addr} {zs ys : List V} (hD : D ∈ A) (hl : H D = some (.lst zs)) : ∀ (ds : List PyData) (xs : List V), DaAll K A H ds xs → DaAll K A (L2.upd H D (.lst ys)) ds xs
  | [], _, h => h
  | d :: ds, _, ⟨v, vs, e, h, hq⟩ => ⟨v, vs, e, Da.wr hD hl d v h, DaAll.wr hD hl ds vs hq⟩
end
theorem Cells.wr {μ : Mu} (c : Cells K φ H μ) {D : Addr} {zs ys : List V} (hD : D ∈ φ.1) (hD2 : D ∉ φ.2) (hl : H D = some (.lst zs)) : Cells K φ (L2.upd H D (.lst ys)) μ := by
  refine ⟨c.nd, c.len, fun n a ds h1 h2 => ?_, fun a ha z => ?_⟩
  · obtain ⟨xs, h, hs⟩ := c.at_ n a ds h1 h2
    exact ⟨xs, by rw [L2.upd_ne (show a ≠ D from fun z => hD2 (by rw [← z]; exact List.mem_of_getElem? h1))]; exact h, DaAll.wr (List.mem_append_left _ hD) hl ds xs hs⟩
  · by_cases e : a = D
    · subst e; rw [upd_same] at z; cases z
    · rw [upd_ne e] at z; exact c.tr a ha z
/-! the store stays where nothing but new objects came -/
theorem Cells.laid {μ : Mu} (c : Cells K φ H μ) {p : Addr} {o : HO} (hp : H p = none) : Cells K φ (upd H p o) μ := by
  refine ⟨c.nd, c.len, fun n a ds h1 h2 => ?_, fun a ha z => c.tr a ha ((Grow.laid (φ := φ) (o := o) hp).live a z)⟩
  obtain ⟨xs, h, hs⟩ := c.at_ n a ds h1 h2
  exact ⟨xs, by rw [upd_ne (ne_of_none h hp)]; exact h, DaAll.step (Grow.laid hp) ds xs hs⟩
theorem Cells.mem {μ : Mu} (c : Cells K φ H μ) {a : Addr} (h : a ∈ φ.2) : ∃ xs, H a = some (.lst xs) := by
  obtain ⟨n, hn⟩ := List.getElem?_of_mem h
  have : n < μ.length := by rw [← c.len]; exact (List.getElem?_eq_some_iff.mp hn).1
  obtain ⟨xs, h, _⟩ := c.at_ n a μ[n] hn (by simp [this])
  exact ⟨xs, h⟩
theorem Cells.notin {μ : Mu} (c : Cells K φ H μ) {p : Addr} (hp : H p = none) : p ∉ φ.av := fun hm => by
  rcases List.mem_append.mp hm with hm | hm
  · exact c.tr p hm hp
  · obtain ⟨xs, h⟩ := c.mem hm
    rw [hp] at h; cases h
/-- a new changed list -/
theorem Cells.cell {μ : Mu} (c : Cells K φ H μ) {p : Addr} {ds : List PyData} {xs : List V} (hp : H p = none) (hs : DaAll K φ.av H ds xs) : Cells K (φ.1, φ.2 ++ [p]) (upd H p (.lst xs)) (μ ++ [ds]) := by
  have g : Grow φ (φ.1, φ.2 ++ [p]) H (upd H p (.lst xs)) := Grow.cell hp
  refine ⟨?_, by simp [c.len], fun n a es h1 h2 => ?_, fun a ha z => c.tr a ha (g.live a z)⟩
  · rw [List.nodup_append]
    refine ⟨c.nd, by simp, fun a ha b hb => ?_⟩
    rw [List.mem_singleton.mp hb]
    intro z; subst z
    exact c.notin hp (List.mem_append_right _ ha)
  · by_cases hn : n < φ.2.length
    · have h1' : φ.2[n]? = some a := by
        have : (φ.2 ++ [p])[n]? = some a := h1
        rwa [List.getElem?_append_left hn] at this
      rw [List.getElem?_append_left (by rw [← c.len]; exact hn)] at h2
      obtain ⟨ys, h3, h4⟩ := c.at_ n a es h1' h2
      exact ⟨ys, by rw [upd_ne (ne_of_none h3 hp)]; exact h3, DaAll.step g es ys h4⟩
    · have hl : n < (φ.2 ++ [p]).length := (List.getElem?_eq_some_iff.mp h1).1
      have e : n = φ.2.length := by
        rw [List.length_append, List.length_singleton] at hl; omega
      subst e
      have h1' : (φ.2 ++ [p])[φ.2.length]? = some a := h1
      rw [List.getElem?_append_right (Nat.le_refl _), Nat.sub_self] at h1'
      rw [List.getElem?_append_right (by rw [c.len]; exact Nat.le_refl _), c.len, Nat.sub_self] at h2
      cases h1'
      cases h2
      exact ⟨xs, upd_same, DaAll.step g ds xs hs⟩
theorem RS.step {σ : L2.St} {ρ : Rho} {μ μ' : Mu} (r : RS K φ σ H ρ μ) (g : Grow φ φ' H H') (c : Cells K φ' H' μ') : RS K φ' σ H' ρ μ' :=
  ⟨c, r.len, fun i w h => let ⟨v, h1, h2⟩ := r.at_ i w h; ⟨v, h1, RV.step g w v h2⟩⟩
theorem RS.put {σ : L2.St} {ρ : Rho} {μ : Mu} (r : RS K φ σ H ρ μ) {i : Nat} {w : Vw} {v : V} (h : RV K φ H w v) : RS K φ (σ.set i (some v)) H (ρ.set i (some w)) μ := by
  refine ⟨r.c, by simp [r.len], fun j u hj => ?_⟩
  by_cases e : j = i
  · subst e
    have hlt : j < ρ.length := by
      have := (List.getElem?_eq_some_iff.mp hj).1
      simpa using this
    rw [List.getElem?_set_self hlt] at hj
    cases hj
    exact ⟨v, by rw [List.getElem?_set_self (by rw [r.len]; exact hlt)], h⟩
  · rw [List.getElem?_set_ne (Ne.symm e)] at hj
    obtain ⟨x, h1, h2⟩ := r.at_ j u hj
    exact ⟨x, by rw [List.getElem?_set_ne (Ne.symm e)]; exact h1, h2⟩
end

/-! ### judgements -/
abbrev Post (K : PySem.W.Frag) (φ : Ph) (H : Hp) (μ' : Mu) (w : Vw) (Q : VK) : Prop := ∀ φ' v H', Grow φ φ' H H' → Cells K φ' H' μ' → RV K φ' H' w v → Q v H'
def tE (K : PySem.W.Frag) (f : Rho → Mu → Option (Vw × Mu)) : TE := fun σ H Q => ∃ φ ρ μ w μ', RS K φ σ H ρ μ ∧ f ρ μ = some (w, μ') ∧ Post K φ H μ' w Q
def tT (K : PySem.W.Frag) (f : Rho → Mu → Option (Bool × Mu)) : TT := fun σ H Q => ∃ φ ρ μ b μ', RS K φ σ H ρ μ ∧ f ρ μ = some (b, μ') ∧ ∀ φ' H', Grow φ φ' H H' → Cells K φ' H' μ' → Q b H'
def tA (K : PySem.W.Frag) (f : Rho → Mu → Option (List Vw × Mu)) : TA := fun σ H Q => ∃ φ ρ μ ws μ', RS K φ σ H ρ μ ∧ f ρ μ = some (ws, μ') ∧ ∀ φ' vs H', Grow φ φ' H H' → Cells K φ' H' μ' → RVs K φ' H' ws vs → Q vs H'
inductive SR where
  | nx (ρ : Rho) (μ : Mu) | rt (w : Vw) (μ : Mu) | bk (ρ : Rho) (μ : Mu) | ct (ρ : Rho) (μ : Mu)
def SPost (K : PySem.W.Frag) (φ : Ph) (H : Hp) (D : Ends) : Option SR → Prop
  | some (.nx ρ μ) => ∀ φ' σ' H', Grow φ φ' H H' → RS K φ' σ' H' ρ μ → D.nx σ' H'
  | some (.rt w μ) => Post K φ H μ w D.rt
  | some (.bk ρ μ) => ∀ φ' σ' H', Grow φ φ' H H' → RS K φ' σ' H' ρ μ → D.bk σ' H'
  | some (.ct ρ μ) => ∀ φ' σ' H', Grow φ φ' H H' → RS K φ' σ' H' ρ μ → D.ct σ' H'
  | none => False
def tS (K : PySem.W.Frag) (g : Rho → Mu → Option SR) : TS := fun D σ H => ∃ φ ρ μ, RS K φ σ H ρ μ ∧ SPost K φ H D (g ρ μ)
theorem SPost.grow {K : PySem.W.Frag} {φ φ' : Ph} {H H' : Hp} {D : Ends} {r : Option SR} (g : Grow φ φ' H H') (h : SPost K φ H D r) : SPost K φ' H' D r := by
  cases r with
  | none => exact h
  | some r =>
    cases r with
    | nx ρ μ => exact fun φ2 σ2 H2 g2 r2 => h φ2 σ2 H2 (g.trans g2) r2
    | rt w μ => exact fun φ2 v2 H2 g2 c2 r2 => h φ2 v2 H2 (g.trans g2) c2 r2
    | bk ρ μ => exact fun φ2 σ2 H2 g2 r2 => h φ2 σ2 H2 (g.trans g2) r2
    | ct ρ μ => exact fun φ2 σ2 H2 g2 r2 => h φ2 σ2 H2 (g.trans g2) r2
theorem PE.to {X : Cx} {e : Expr} {t u : TE} (h : PE X e t) (k : ∀ σ H Q, u σ H Q → t σ H Q) : PE X e u := ⟨fun pins s σ H Q I q => h.run pins s σ H Q I (k σ H Q q)⟩
theorem PT.to {X : Cx} {e : Expr} {t u : TT} (h : PT X e t) (k : ∀ σ H Q, u σ H Q → t σ H Q) : PT X e u := ⟨fun pins s σ H Q I q => h.run pins s σ H Q I (k σ H Q q)⟩
theorem PW.to {X : Cx} {e : Expr} {t u : TT} (h : PW X e t) (k : ∀ σ H Q, u σ H Q → t σ H Q) : PW X e u := ⟨fun wh pins s σ H Q I q => h.run wh pins s σ H Q I (k σ H Q q)⟩
theorem PA.to {X : Cx} {e : List Expr} {t u : TA} (h : PA X e t) (k : ∀ σ H Q, u σ H Q → t σ H Q) : PA X e u := ⟨fun pos pins s σ H Q I q => h.run pos pins s σ H Q I (k σ H Q q)⟩
theorem PS.to {X : Cx} {e : Stmt} {t u : TS} (h : PS X e t) (k : ∀ D σ H, u D σ H → t D σ H) : PS X e u := ⟨fun pins s σ H D I q => h.run pins s σ H D I (k D σ H q)⟩
theorem PSs.to {X : Cx} {e : List Stmt} {t u : TS} (h : PSs X e t) (k : ∀ D σ H, u D σ H → t D σ H) : PSs X e u := ⟨fun pins s σ H D I q => h.run pins s σ H D I (k D σ H q)⟩
end VL
end
section
set_option Elab.async false
set_option linter.all false
set_option maxRecDepth 100000
namespace VL
open PySem PySem.Spec PyProof.Rows L2
section
variable {X : Cx} {a b c : Expr} {pos : Pos}
abbrev EF := Rho → Mu → Option (Vw × Mu)
abbrev BF := Rho → Mu → Option (Bool × Mu)
abbrev AF := Rho → Mu → Option (List Vw × Mu)
abbrev SF := Rho → Mu → Option SR
/-! ### the mirror's words -/
@[simp] def eV (i : Nat) (ρ : Rho) (μ : Mu) : Option (Vw × Mu) := match ρ[i]? with
  | some (some w) => some (w, μ)
  | _ => none
@[simp] def eC (p : PyData) (_ : Rho) (μ : Mu) : Option (Vw × Mu) := some (.d p, μ)
@[simp] def eB1 (o : Mu → Vw → Option Vw) (f : EF) (ρ : Rho) (μ : Mu) : Option (Vw × Mu) := match f ρ μ with
  | some (x, μ1) => (o μ1 x).map fun z => (z, μ1)
  | none => none
@[simp] def eB2 (o : Mu → Vw → Vw → Option Vw) (f g : EF) (ρ : Rho) (μ : Mu) : Option (Vw × Mu) := match f ρ μ with
  | some (x, μ1) => (match g ρ μ1 with
    | some (y, μ2) => (o μ2 x y).map fun z => (z, μ2)
    | none => none)
  | none => none
/-- a value's truth as a test: a bool -/
@[simp] def bE (f : EF) (ρ : Rho) (μ : Mu) : Option (Bool × Mu) := match f ρ μ with
  | some (.d (.bool b), μ1) => some (b, μ1)
  | _ => none
@[simp] def bAnd (f g : BF) (ρ : Rho) (μ : Mu) : Option (Bool × Mu) := match f ρ μ with
  | some (true, μ1) => g ρ μ1
  | r => r
@[simp] def bOr (f g : BF) (ρ : Rho) (μ : Mu) : Option (Bool × Mu) := match f ρ μ with
  | some (false, μ1) => g ρ μ1
  | r => r
@[simp] def bNot (f : BF) (ρ : Rho) (μ : Mu) : Option (Bool × Mu) := (f ρ μ).map fun r => (!r.1, r.2)
@[simp] def eT (f : BF) (ρ : Rho) (μ : Mu) : Option (Vw × Mu) := (f ρ μ).map fun r => (.d (.bool r.1), r.2)
@[simp] def eIf (t : BF) (f g : EF) (ρ : Rho) (μ : Mu) : Option (Vw × Mu) := match t ρ μ with
  | some (true, μ1) => f ρ μ1
  | some (false, μ1) => g ρ μ1
  | none => none
@[simp] def aNil (_ : Rho) (μ : Mu) : Option (List Vw × Mu) := some ([], μ)
@[simp] def aCons (f : EF) (g : AF) (ρ : Rho) (μ : Mu) : Option (List Vw × Mu) := match f ρ μ with
  | some (x, μ1) => (g ρ μ1).map fun r => (x :: r.1, r.2)
  | none => none
/-! ### a value operation and its rule -/
/-- what is asked of a two-place rule r for the mirror's operation o -/
def O2 (K : PySem.W.Frag) (r : R2) (o : Mu → Vw → Vw → Option Vw) : Prop := ∀ (φ : Ph) (H : Hp) (μ : Mu) (x y w : Vw) (u v : V) (Q : VK), Cells K φ H μ → RV K φ H x u → RV K φ H y v → o μ x y = some w → Post K φ H μ w Q → r u v H Q
def O1 (K : PySem.W.Frag) (r : V → Hp → VK → Prop) (o : Mu → Vw → Option Vw) : Prop := ∀ (φ : Ph) (H : Hp) (μ : Mu) (x w : Vw) (u : V) (Q : VK), Cells K φ H μ → RV K φ H x u → o μ x = some w → Post K φ H μ w Q → r u H Q

theorem ej_var (i : Nat) {x : Str} (hN : X.N[i]? = some x := by rfl) (hv : Vis X.env.scope x := by first | exact Or.inl rfl | exact Or.inr (Or.inl rfl) | exact Or.inr (Or.inr rfl)) (hd : (x == ("__debug__" : Str)) = false := by decide)
    (hcd : (x == ("__classdict__" : Str)) = false := by decide) : PE X (.Name x pos) (tE X.K (eV i)) := PE.to (pe_var hN hv hd hcd) fun σ H Q ⟨φ, ρ, μ, w, μ', r, e, k⟩ => by
  unfold eV at e
  split at e
  · rename_i u h
    cases e
    obtain ⟨v, h1, h2⟩ := r.at_ i _ h
    exact ⟨v, h1, k φ v H (.refl _ _) r.c h2⟩
  · cases e
theorem ej_c {p : PyData} {v : V} {e : Expr} (h : PE X e (tC v)) (hp : ∀ φ H, Da X.K φ H p v) : PE X e (tE X.K (eC p)) := PE.to h fun σ H Q ⟨φ, ρ, μ, w, μ', r, e, k⟩ => by
  unfold eC at e
  cases e
  exact k φ v H (.refl _ _) r.c (hp φ.av H)
theorem ej_int {i j} : PE X (.Constant (.int i) j pos) (tE X.K (eC (.int i))) := ej_c pe_int fun _ _ => rfl
theorem ej_bl {b j} : PE X (.Constant (.bool b) j pos) (tE X.K (eC (.bool b))) := ej_c pe_bl fun _ _ => rfl
theorem ej_non {j} : PE X (.Constant .none j pos) (tE X.K (eC .none)) := ej_c pe_non fun _ _ => rfl
theorem ej_str {x j} : PE X (.Constant (.str x) j pos) (tE X.K (eC (.str x))) := ej_c pe_str fun _ _ => rfl
/-- a module's constant int, text -/
theorem ej_gint {x : Str} {i : Int} (hm : ∃ t, X.mg x = some (.int i t)) (hg : Gl X x := by rfl) (hd : (x == ("__debug__" : Str)) = false := by decide) : PE X (.Name x pos) (tE X.K (eC (.int i))) := by
  obtain ⟨t, hm⟩ := hm
  exact ej_c (pe_glob (v := .int i) hg hm ⟨t, rfl⟩ hd) fun _ _ => rfl
/-- a module's tuple -/
theorem ej_gtup {x : Str} {ad : Addr} {p : PyData} (hm : X.mg x = some (.ref ad)) (hp : ∀ φ H, Da X.K φ H p (.ref ad)) (hg : Gl X x := by rfl) (hd : (x == ("__debug__" : Str)) = false := by decide) : PE X (.Name x pos) (tE X.K (eC p)) :=
  ej_c (pe_glob (v := .ref ad) hg hm rfl hd) hp
theorem tE_2 {K : PySem.W.Frag} {r : R2} {o : Mu → Vw → Vw → Option Vw} {f g : EF} (h : O2 K r o) : ∀ σ H Q, tE K (eB2 o f g) σ H Q → tOp r (tE K f) (tE K g) σ H Q := fun σ H Q ⟨φ, ρ, μ, w, μ', rs, e, k⟩ => by
  unfold eB2 at e
  split at e
  · rename_i x μ1 e1
    split at e
    · rename_i y μ2 e2
      obtain ⟨z, ez, e3⟩ := Option.map_eq_some_iff.mp e
      cases e3
      refine ⟨φ, ρ, μ, x, μ1, rs, e1, fun φ1 u H1 g1 c1 r1 => ?_⟩
      have rs1 := rs.step g1 c1
      refine ⟨φ1, ρ, μ1, y, _, rs1, e2, fun φ2 v H2 g2 c2 r2 => ?_⟩
      exact h φ2 H2 _ x y w u v Q c2 (RV.step g2 _ _ r1) r2 ez fun φ3 v3 H3 g3 c3 r3 => k φ3 v3 H3 ((g1.trans g2).trans g3) c3 r3
    · cases e
  · cases e
theorem tE_1 {K : PySem.W.Frag} {r : V → Hp → VK → Prop} {o : Mu → Vw → Option Vw} {f : EF} (h : O1 K r o) : ∀ σ H Q, tE K (eB1 o f) σ H Q → tUn r (tE K f) σ H Q := fun σ H Q ⟨φ, ρ, μ, w, μ', rs, e, k⟩ => by
  unfold eB1 at e
  split at e
  · rename_i x μ1 e1
    obtain ⟨z, ez, e3⟩ := Option.map_eq_some_iff.mp e
    cases e3
    refine ⟨φ, ρ, μ, x, _, rs, e1, fun φ1 u H1 g1 c1 r1 => ?_⟩
    exact h φ1 H1 _ x w u Q c1 r1 ez fun φ3 v3 H3 g3 c3 r3 => k φ3 v3 H3 (g1.trans g3) c3 r3
  · cases e
theorem ej_op {op : Operator} {r : R2} {o : Mu → Vw → Vw → Option Vw} {f g : EF} (ho : OpR X (binaryOp op) r) (h : O2 X.K r o) (ha : PE X a (tE X.K f)) (hb : PE X b (tE X.K g)) : PE X (.BinOp a op b pos) (tE X.K (eB2 o f g)) := PE.to (pe_op ho ha hb) (tE_2 h)
theorem ej_cmp {op : CmpOp} {r : R2} {o : Mu → Vw → Vw → Option Vw} {f g : EF} (ho : OpR X (compareOp op) r) (h : O2 X.K r o) (ha : PE X a (tE X.K f)) (hb : PE X b (tE X.K g)) (hm : behindInMarks op b = false := by first | exact nomark _ | rfl) : PE X (.Compare a [op] [b] pos) (tE X.K (eB2 o f g)) := PE.to (pe_cmpR ho ha hb hm) (tE_2 h)
theorem ej_ix {r : R2} {o : Mu → Vw → Vw → Option Vw} {f g : EF} (ho : IxR X r) (h : O2 X.K r o) (ha : PE X a (tE X.K f)) (hb : PE X b (tE X.K g)) (hs : PlainIx b := by exact fun _ _ => rfl) : PE X (.Subscript a b pos) (tE X.K (eB2 o f g)) := PE.to (pe_ix ho ha hb hs) (tE_2 h)
theorem ej_un {op : UnaryOp} {r : V → Hp → VK → Prop} {o : Mu → Vw → Option Vw} {f : EF} (ho : UnR X (unaryOp op) r) (h : O1 X.K r o) (ha : PE X a (tE X.K f)) : PE X (.UnaryOp op a pos) (tE X.K (eB1 o f)) := PE.to (pe_un ho ha) (tE_1 h)
/-! ### tests -/
theorem tT_E {K : PySem.W.Frag} {f : EF} : ∀ σ H Q, tT K (bE f) σ H Q → tB (tE K f) σ H Q := fun σ H Q ⟨φ, ρ, μ, b, μ', rs, e, k⟩ => by
  unfold bE at e
  split at e
  · rename_i c μ1 e1
    cases e
    exact ⟨φ, ρ, μ, _, _, rs, e1, fun φ1 u H1 g1 c1 r1 => ⟨_, r1, k φ1 H1 g1 c1⟩⟩
  · cases e
theorem tj_val {f : EF} (h : PE X a (tE X.K f)) (he : ∀ whole, isTrue a X.env whole = (do let v ← whole; standAt a.pos; holding [v] (truthy v)) := by intro _; rfl) : PT X a (tT X.K (bE f)) := PT.to (pt_val h he) tT_E
theorem tj_cmp {op : CmpOp} {r : R2} {o : Mu → Vw → Vw → Option Vw} {f g : EF} (ho : OpR X (compareOp op) r) (h : O2 X.K r o) (ha : PE X a (tE X.K f)) (hb : PE X b (tE X.K g)) (hm : behindInMarks op b = false := by first | exact nomark _ | rfl) : PT X (.Compare a [op] [b] pos) (tT X.K (bE (eB2 o f g))) :=
  PT.to (pt_cmpR ho ha hb hm) fun σ H Q q => by
    have q1 := tT_E σ H Q q
    exact tE_2 h σ H _ q1
theorem tj_not {f : BF} (h : PT X a (tT X.K f)) : PT X (.UnaryOp .Not a pos) (tT X.K (bNot f)) := PT.to (pt_not h) fun σ H Q ⟨φ, ρ, μ, b, μ', rs, e, k⟩ => by
  obtain ⟨⟨c, μ1⟩, e1, e2⟩ := Option.map_eq_some_iff.mp e
  cases e2
  exact ⟨φ, ρ, μ, c, _, rs, e1, fun φ1 H1 g1 c1 => k φ1 H1 g1 c1⟩
theorem tT_and {K : PySem.W.Frag} {f g : BF} : ∀ σ H Q, tT K (bAnd f g) σ H Q → tAnd (tT K f) (tT K g) σ H Q := fun σ H Q ⟨φ, ρ, μ, b, μ', rs, e, k⟩ => by
  unfold bAnd at e
  split at e
  · rename_i μ1 e1
    refine ⟨φ, ρ, μ, true, μ1, rs, e1, fun φ1 H1 g1 c1 => ?_⟩
    refine L2.iteT ?_
    exact ⟨φ1, ρ, μ1, b, μ', rs.step g1 c1, e, fun φ2 H2 g2 c2 => k φ2 H2 (g1.trans g2) c2⟩
  · rename_i hne
    refine ⟨φ, ρ, μ, b, μ', rs, e, fun φ1 H1 g1 c1 => ?_⟩
    cases b with
    | true => exact absurd e (hne _)
    | false =>
      refine L2.iteF ?_
      exact k φ1 H1 g1 c1
theorem tT_or {K : PySem.W.Frag} {f g : BF} : ∀ σ H Q, tT K (bOr f g) σ H Q → tOr (tT K f) (tT K g) σ H Q := fun σ H Q ⟨φ, ρ, μ, b, μ', rs, e, k⟩ => by
  unfold bOr at e
  split at e
  · rename_i μ1 e1
    refine ⟨φ, ρ, μ, false, μ1, rs, e1, fun φ1 H1 g1 c1 => ?_⟩
    refine L2.iteF ?_
    exact ⟨φ1, ρ, μ1, b, μ', rs.step g1 c1, e, fun φ2 H2 g2 c2 => k φ2 H2 (g1.trans g2) c2⟩
  · rename_i hne
    refine ⟨φ, ρ, μ, b, μ', rs, e, fun φ1 H1 g1 c1 => ?_⟩
    cases b with
    | false => exact absurd e (hne _)
    | true =>
      refine L2.iteT ?_
      exact k φ1 H1 g1 c1
theorem wj_and1 {f : BF} (h : PT X a (tT X.K f)) : PW X (.BoolOp .And [a] pos) (tT X.K f) := pw_and1 h
theorem wj_or1 {f : BF} (h : PT X a (tT X.K f)) : PW X (.BoolOp .Or [a] pos) (tT X.K f) := pw_or1 h
theorem wj_and {rest : List Expr} {f g : BF} (ha : PT X a (tT X.K f)) (hb : PW X (.BoolOp .And (b :: rest) pos) (tT X.K g)) : PW X (.BoolOp .And (a :: b :: rest) pos) (tT X.K (bAnd f g)) := PW.to (pw_and ha hb) tT_and
theorem wj_or {rest : List Expr} {f g : BF} (ha : PT X a (tT X.K f)) (hb : PW X (.BoolOp .Or (b :: rest) pos) (tT X.K g)) : PW X (.BoolOp .Or (a :: b :: rest) pos) (tT X.K (bOr f g)) := PW.to (pw_or ha hb) tT_or
theorem tj_w {f : BF} (h : PW X a (tT X.K f)) : PT X a (tT X.K f) := h.pt
/-- and, or, not as values of bools -/
@[simp] def eAnd (f g : EF) (ρ : Rho) (μ : Mu) : Option (Vw × Mu) := match f ρ μ with
  | some (.d (.bool true), μ1) => g ρ μ1
  | some (.d (.bool false), μ1) => some (.d (.bool false), μ1)
  | _ => none
@[simp] def eOr (f g : EF) (ρ : Rho) (μ : Mu) : Option (Vw × Mu) := match f ρ μ with
  | some (.d (.bool false), μ1) => g ρ μ1
  | some (.d (.bool true), μ1) => some (.d (.bool true), μ1)
  | _ => none
@[simp] def eNot (f : EF) (ρ : Rho) (μ : Mu) : Option (Vw × Mu) := match f ρ μ with
  | some (.d (.bool b), μ1) => some (.d (.bool (!b)), μ1)
  | _ => none
theorem ej_one {op} {f : EF} (h : PE X a (tE X.K f)) : PE X (.BoolOp op [a] pos) (tE X.K f) := pe_one h
theorem ej_and {rest : List Expr} {f g : EF} (ha : PE X a (tE X.K f)) (hb : PE X (.BoolOp .And (b :: rest) pos) (tE X.K g)) : PE X (.BoolOp .And (a :: b :: rest) pos) (tE X.K (eAnd f g)) := PE.to (pe_and ha hb) fun σ H Q ⟨φ, ρ, μ, w, μ', rs, e, k⟩ => by
  unfold eAnd at e
  split at e
  · rename_i μ1 e1
    refine ⟨φ, ρ, μ, _, μ1, rs, e1, fun φ1 v H1 g1 c1 r1 => ⟨true, r1, ?_⟩⟩
    refine L2.iteT ?_
    exact ⟨φ1, ρ, μ1, w, μ', rs.step g1 c1, e, fun φ2 v2 H2 g2 c2 r2 => k φ2 v2 H2 (g1.trans g2) c2 r2⟩
  · rename_i μ1 e1
    cases e
    refine ⟨φ, ρ, μ, _, _, rs, e1, fun φ1 v H1 g1 c1 r1 => ⟨false, r1, ?_⟩⟩
    refine L2.iteF ?_
    exact k φ1 _ H1 g1 c1 rfl
  · cases e
theorem ej_or {rest : List Expr} {f g : EF} (ha : PE X a (tE X.K f)) (hb : PE X (.BoolOp .Or (b :: rest) pos) (tE X.K g)) : PE X (.BoolOp .Or (a :: b :: rest) pos) (tE X.K (eOr f g)) := PE.to (pe_or ha hb) fun σ H Q ⟨φ, ρ, μ, w, μ', rs, e, k⟩ => by
  unfold eOr at e
  split at e
  · rename_i μ1 e1
    refine ⟨φ, ρ, μ, _, μ1, rs, e1, fun φ1 v H1 g1 c1 r1 => ⟨false, r1, ?_⟩⟩
    refine L2.iteF ?_
    exact ⟨φ1, ρ, μ1, w, μ', rs.step g1 c1, e, fun φ2 v2 H2 g2 c2 r2 => k φ2 v2 H2 (g1.trans g2) c2 r2⟩
  · rename_i μ1 e1
    cases e
    refine ⟨φ, ρ, μ, _, _, rs, e1, fun φ1 v H1 g1 c1 r1 => ⟨true, r1, ?_⟩⟩
    refine L2.iteT ?_
    exact k φ1 _ H1 g1 c1 rfl
  · cases e
theorem ej_not {f : EF} (ha : PE X a (tE X.K f)) : PE X (.UnaryOp .Not a pos) (tE X.K (eNot f)) := PE.to (pe_not ha) fun σ H Q ⟨φ, ρ, μ, w, μ', rs, e, k⟩ => by
  unfold eNot at e
  split at e
  · rename_i b μ1 e1
    cases e
    exact ⟨φ, ρ, μ, _, _, rs, e1, fun φ1 v H1 g1 c1 r1 => ⟨b, r1, k φ1 _ H1 g1 c1 rfl⟩⟩
  · cases e
theorem ej_if {t : BF} {f g : EF} (hc : PT X c (tT X.K t)) (ha : PE X a (tE X.K f)) (hb : PE X b (tE X.K g)) : PE X (.IfExp c a b pos) (tE X.K (eIf t f g)) := PE.to (pe_ifExp hc ha hb) fun σ H Q ⟨φ, ρ, μ, w, μ', rs, e, k⟩ => by
  unfold eIf at e
  split at e
  · rename_i μ1 e1
    refine ⟨φ, ρ, μ, true, μ1, rs, e1, fun φ1 H1 g1 c1 => ?_⟩
    refine L2.iteT ?_
    exact ⟨φ1, ρ, μ1, w, μ', rs.step g1 c1, e, fun φ2 v2 H2 g2 c2 r2 => k φ2 v2 H2 (g1.trans g2) c2 r2⟩
  · rename_i μ1 e1
    refine ⟨φ, ρ, μ, false, μ1, rs, e1, fun φ1 H1 g1 c1 => ?_⟩
    refine L2.iteF ?_
    exact ⟨φ1, ρ, μ1, w, μ', rs.step g1 c1, e, fun φ2 v2 H2 g2 c2 r2 => k φ2 v2 H2 (g1.trans g2) c2 r2⟩
  · cases e
/-! ### chains a op b op' c -/
@[simp] def eChain (o o' : Mu → Vw → Vw → Option Vw) (f g h : EF) (ρ : Rho) (μ : Mu) : Option (Vw × Mu) := match f ρ μ with
  | some (x, μ1) => (match g ρ μ1 with
    | some (y, μ2) => (match o μ2 x y with
      | some (.d (.bool true)) => (match h ρ μ2 with
        | some (z, μ3) => (o' μ3 y z).map fun u => (u, μ3)
        | none => none)
      | some (.d (.bool false)) => some (.d (.bool false), μ2)
      | _ => none)
    | none => none)
  | none => none
theorem tE_chain {K : PySem.W.Frag} {r r' : R2} {o o' : Mu → Vw → Vw → Option Vw} {f g h : EF} (ho : O2 K r o) (ho' : O2 K r' o') : ∀ σ H Q, tE K (eChain o o' f g h) σ H Q → tChain r r' (tE K f) (tE K g) (tE K h) σ H Q := fun σ H Q ⟨φ, ρ, μ, w, μ', rs, e, k⟩ => by
  unfold eChain at e
  split at e
  · rename_i x μ1 e1
    split at e
    · rename_i y μ2 e2
      refine ⟨φ, ρ, μ, x, μ1, rs, e1, fun φ1 u H1 g1 c1 r1 => ?_⟩
      have rs1 := rs.step g1 c1
      refine ⟨φ1, ρ, μ1, y, μ2, rs1, e2, fun φ2 v H2 g2 c2 r2 => ?_⟩
      split at e
      · rename_i e3
        refine ho φ2 H2 μ2 x y _ u v _ c2 (RV.step g2 _ _ r1) r2 e3 fun φ3 v3 H3 g3 c3 r3 => ⟨true, r3, ?_⟩
        refine L2.iteT ?_
        split at e
        · rename_i z μ3 e4
          obtain ⟨q, eq, e5⟩ := Option.map_eq_some_iff.mp e
          cases e5
          have rs3 := (rs1.step g2 c2).step g3 c3
          refine ⟨φ3, ρ, μ2, z, _, rs3, e4, fun φ4 v4 H4 g4 c4 r4 => ?_⟩
          exact ho' φ4 H4 _ y z w v v4 Q c4 (RV.step (g3.trans g4) _ _ r2) r4 eq fun φ5 v5 H5 g5 c5 r5 => k φ5 v5 H5 ((((g1.trans g2).trans g3).trans g4).trans g5) c5 r5
        · cases e
      · rename_i e3
        cases e
        refine ho φ2 H2 _ x y (.d (.bool false)) u v _ c2 (RV.step g2 _ _ r1) r2 e3 fun φ3 v3 H3 g3 c3 r3 => ⟨false, r3, ?_⟩
        refine L2.iteF ?_
        exact k φ3 _ H3 ((g1.trans g2).trans g3) c3 rfl
      · cases e
    · cases e
  · cases e
theorem ej_chain {op op' : CmpOp} {r r' : R2} {o o' : Mu → Vw → Vw → Option Vw} {f g h : EF} (ho : OpR X (compareOp op) r) (h1 : O2 X.K r o) (ho' : OpR X (compareOp op') r') (h1' : O2 X.K r' o') (ha : PE X a (tE X.K f)) (hb : PE X b (tE X.K g)) (hc : PE X c (tE X.K h))
    (hm : lastMarks [op, op'] [b, c] = false := by with_unfolding_all rfl) : PE X (.Compare a [op, op'] [b, c] pos) (tE X.K (eChain o o' f g h)) := PE.to (pe_chain ho ho' ha hb hc hm) (tE_chain h1 h1')
theorem tj_chain {op op' : CmpOp} {r r' : R2} {o o' : Mu → Vw → Vw → Option Vw} {f g h : EF} (ho : OpR X (compareOp op) r) (h1 : O2 X.K r o) (ho' : OpR X (compareOp op') r') (h1' : O2 X.K r' o') (ha : PE X a (tE X.K f)) (hb : PE X b (tE X.K g)) (hc : PE X c (tE X.K h))
    (hm : lastMarks [op, op'] [b, c] = false := by with_unfolding_all rfl) : PT X (.Compare a [op, op'] [b, c] pos) (tT X.K (bE (eChain o o' f g h))) := PT.to (pt_chain ho ho' ha hb hc hm) fun σ H Q q => tE_chain h1 h1' σ H _ (tT_E σ H Q q)
/-! ### arguments, tuples, lists -/
theorem aj_nil : PA X [] (tA X.K aNil) := PA.to pa_nil fun σ H Q ⟨φ, ρ, μ, ws, μ', rs, e, k⟩ => by
  unfold aNil at e; cases e
  exact k φ [] H (.refl _ _) rs.c rfl
theorem aj_cons {es : List Expr} {f : EF} {g : AF} (ha : PE X a (tE X.K f)) (hr : PA X es (tA X.K g)) (hs : starEach (a :: es) X.env = (false, eval a X.env) :: starEach es X.env := by rfl) : PA X (a :: es) (tA X.K (aCons f g)) := PA.to (pa_cons ha hr hs) fun σ H Q ⟨φ, ρ, μ, ws, μ', rs, e, k⟩ => by
  unfold aCons at e
  split at e
  · rename_i x μ1 e1
    obtain ⟨⟨ys, μ2⟩, e2, e3⟩ := Option.map_eq_some_iff.mp e
    cases e3
    refine ⟨φ, ρ, μ, x, μ1, rs, e1, fun φ1 u H1 g1 c1 r1 => ?_⟩
    refine ⟨φ1, ρ, μ1, ys, _, rs.step g1 c1, e2, fun φ2 vs H2 g2 c2 r2 => ?_⟩
    exact k φ2 _ H2 (g1.trans g2) c2 ⟨u, vs, rfl, RV.step g2 _ _ r1, r2⟩
  · cases e
/-- all are data -/
@[simp] def allD : List Vw → Option (List PyData)
  | [] => some []
  | .d p :: r => (allD r).map fun q => p :: q
  | _ :: _ => none
theorem allD_da {K : PySem.W.Frag} {φ : Ph} {H : Hp} : ∀ {ws : List Vw} {ps : List PyData} {vs : List V}, allD ws = some ps → RVs K φ H ws vs → DaAll K φ.av H ps vs
  | [], _, _, e, r => by cases e; exact r
  | .d p :: ws, _, _, e, ⟨v, vs, ev, r, rs⟩ => by
    obtain ⟨q, e1, e2⟩ := Option.map_eq_some_iff.mp e
    cases e2
    exact ⟨v, vs, ev, r, allD_da e1 rs⟩
  | .loc n :: _, _, _, e, _ => by cases e
  | .kl n :: _, _, _, e, _ => by cases e
@[simp] def eTup (f : AF) (ρ : Rho) (μ : Mu) : Option (Vw × Mu) := match f ρ μ with
  | some (ws, μ1) => (match allD ws with
    | some ps => if ps.length ≤ 1000000 then some (.d (.tuple ps), μ1) else none
    | none => none)
  | none => none
@[simp] def eLst (f : AF) (ρ : Rho) (μ : Mu) : Option (Vw × Mu) := match f ρ μ with
  | some (ws, μ1) => (match allD ws with
    | some ps => if ps.length ≤ 1000000 then some (.d (.list ps), μ1) else none
    | none => none)
  | none => none
theorem size_ok {n : Nat} (h : n ≤ 1000000) : n ≤ sizeLine := by rw [sizeLine_eq]; omega
theorem size_lt {n : Nat} (h : n ≤ 1000000) : n < sizeLine := by rw [sizeLine_eq]; omega
theorem new_tup {K : PySem.W.Frag} {φ : Ph} {H : Hp} {μ : Mu} {ps : List PyData} {vs : List V} {Q : VK} (c : Cells K φ H μ) (hs : DaAll K φ.av H ps vs) (k : Post K φ H μ (.d (.tuple ps)) Q) : ∀ p, H p = none → Q (.ref p) (upd H p (.tup vs)) := fun p hp =>
  k φ _ _ (Grow.laid hp) (c.laid hp) ⟨p, vs, rfl, SqT.of upd_same, DaAll.step (Grow.laid hp) _ _ hs⟩
theorem new_lst {K : PySem.W.Frag} {φ : Ph} {H : Hp} {μ : Mu} {ps : List PyData} {vs : List V} {Q : VK} (c : Cells K φ H μ) (hs : DaAll K φ.av H ps vs) (k : Post K φ H μ (.d (.list ps)) Q) : ∀ p, H p = none → Q (.ref p) (upd H p (.lst vs)) := fun p hp =>
  k φ _ _ (Grow.laid hp) (c.laid hp) ⟨p, vs, rfl, c.notin hp, upd_same, DaAll.step (Grow.laid hp) _ _ hs⟩
theorem ej_tup {es : List Expr} {x1} {f : AF} (h : PA X es (tA X.K f)) : PE X (.Tuple es x1 pos) (tE X.K (eTup f)) := PE.to (pe_tup h) fun σ H Q ⟨φ, ρ, μ, w, μ', rs, e, k⟩ => by
  unfold eTup at e
  split at e
  · rename_i ws μ1 e1
    split at e
    · rename_i ps e2
      split at e
      · rename_i hl
        cases e
        refine ⟨φ, ρ, μ, ws, _, rs, e1, fun φ1 vs H1 g1 c1 r1 => ?_⟩
        have hd := allD_da e2 r1
        refine ⟨by rw [← hd.len]; exact size_ok hl, ?_⟩
        exact new_tup c1 hd fun φ2 v2 H2 g2 c2 r2 => k φ2 v2 H2 (g1.trans g2) c2 r2
      · cases e
    · cases e
  · cases e
theorem ej_lst {es : List Expr} {f : AF} (h : PA X es (tA X.K f)) : PE X (.List es pos) (tE X.K (eLst f)) := PE.to (pe_lst h) fun σ H Q ⟨φ, ρ, μ, w, μ', rs, e, k⟩ => by
  unfold eLst at e
  split at e
  · rename_i ws μ1 e1
    split at e
    · rename_i ps e2
      split at e
      · rename_i hl
        cases e
        refine ⟨φ, ρ, μ, ws, _, rs, e1, fun φ1 vs H1 g1 c1 r1 => ?_⟩
        have hd := allD_da e2 r1
        refine ⟨by rw [← hd.len]; exact size_ok hl, ?_⟩
        exact new_lst c1 hd fun φ2 v2 H2 g2 c2 r2 => k φ2 v2 H2 (g1.trans g2) c2 r2
      · cases e
    · cases e
  · cases e
end
end VL
end
section
set_option Elab.async false
set_option linter.all false
set_option maxRecDepth 100000
namespace VL
open PySem PySem.Spec PyProof.Rows L2
section
variable {K : PySem.W.Frag} {φ : Ph} {A : List Addr} {H : Hp} {μ : Mu}
/-- the items of a list (data, changed, from outside) -/
@[simp] def toL (μ : Mu) : Vw → Option (List PyData)
  | .d (.list ds) => some ds
  | .loc n => μ[n]?
  | .kl ns => some (ns.map PyData.int)
  | _ => none
/-- a tracked list's items -/
@[simp] def toLm (μ : Mu) : Vw → Option (List PyData)
  | .d (.list ds) => some ds
  | .loc n => μ[n]?
  | _ => none
/-- as data -/
@[simp] def toD (μ : Mu) : Vw → Option PyData
  | .d p => some p
  | .loc n => (μ[n]?).map PyData.list
  | .kl ns => some (.list (ns.map PyData.int))
  | .rg _ _ => none
theorem toLm_ok (c : Cells K φ H μ) {w : Vw} {v : V} {ds : List PyData} (r : RV K φ H w v) (e : toLm μ w = some ds) : ∃ a xs, v = .ref a ∧ H a = some (.lst xs) ∧ DaAll K φ.av H ds xs := by
  cases w with
  | d p =>
    cases p with
    | list es =>
      cases e
      obtain ⟨a, xs, e1, _, e3, e4⟩ := r
      exact ⟨a, xs, e1, e3, e4⟩
    | _ => cases e
  | loc n =>
    obtain ⟨a, h1, h2⟩ := r
    obtain ⟨xs, h3, h4⟩ := c.at_ n a ds h1 e
    exact ⟨a, xs, h2, h3, h4⟩
  | kl ns => cases e
  | rg lo hi => cases e
theorem toL_ok (c : Cells K φ H μ) {w : Vw} {v : V} {ds : List PyData} (r : RV K φ H w v) (e : toL μ w = some ds) : ∃ a xs, v = .ref a ∧ SqL K H a xs ∧ DaAll K φ.av H ds xs := by
  cases w with
  | kl ns =>
    cases e
    obtain ⟨a, h1, h2⟩ := r
    exact ⟨a, _, h1, h2.sq, DaAll.ints ns⟩
  | rg lo hi => cases e
  | d p =>
    obtain ⟨a, xs, h1, h2, h3⟩ := toLm_ok c (w := .d p) (ds := ds) r (by cases p <;> first | exact e | cases e)
    exact ⟨a, xs, h1, SqL.of h2, h3⟩
  | loc n =>
    obtain ⟨a, xs, h1, h2, h3⟩ := toLm_ok c (w := .loc n) (ds := ds) r e
    exact ⟨a, xs, h1, SqL.of h2, h3⟩
/-! as L2's data -/
mutual
theorem Da.dp : ∀ (p : PyData) (v : V), p.plain = true → Da K A H p v → Dp K H v p
  | .none, _, _, h => by cases h; exact .non
  | .bool _, _, _, h => by cases h; exact .bl _
  | .int _, _, _, h => by cases h; exact .int _
  | .str _, _, _, h => by cases h; exact .str _
  | .list ds, _, z, ⟨a, xs, e, hn, h, hs⟩ => by rw [e]; exact .lst (SqL.of h) (DaAll.dp ds xs z hs)
  | .tuple ds, _, z, ⟨a, xs, e, h, hs⟩ => by rw [e]; exact .tup h (DaAll.dp ds xs z hs)
  | .dict _, _, z, _ => by cases z
theorem DaAll.dp : ∀ (ds : List PyData) (xs : List V), PyData.plainAll ds = true → DaAll K A H ds xs → DpAll K H xs ds
  | [], _, _, h => by rw [show _ = _ from h]; exact .nil
  | d :: ds, _, z, ⟨v, vs, e, h, hs⟩ => by
    obtain ⟨z1, z2⟩ := Bool.and_eq_true_iff.mp z
    rw [e]; exact .cons (Da.dp d v z1 h) (DaAll.dp ds vs z2 hs)
end
theorem plain_ints : ∀ ns : List Int, PyData.plainAll (ns.map PyData.int) = true
  | [] => rfl
  | n :: ns => by rw [List.map_cons, PyData.plainAll, plain_ints ns]; rfl
theorem dp_ints : ∀ ns : List Int, DpAll K H (ns.map V.int) (ns.map PyData.int)
  | [] => .nil
  | n :: ns => .cons (.int n) (dp_ints ns)
theorem toD_ok (c : Cells K φ H μ) {w : Vw} {v : V} {p : PyData} (r : RV K φ H w v) (e : toD μ w = some p) (z : p.plain = true) : Dp K H v p := by
  cases w with
  | d q => cases e; exact Da.dp p v z r
  | loc n =>
    obtain ⟨ds, e1, e2⟩ := Option.map_eq_some_iff.mp e
    cases e2
    obtain ⟨a, h1, h2⟩ := r
    obtain ⟨xs, h3, h4⟩ := c.at_ n a ds h1 e1
    rw [h2]
    exact .lst (SqL.of h3) (DaAll.dp ds xs z h4)
  | kl ns =>
    cases e
    obtain ⟨a, h1, h2⟩ := r
    rw [h1]
    exact .lst h2.sq (dp_ints ns)
  | rg lo hi => cases e
theorem post_here {w : Vw} {Q : VK} {v : V} (k : Post K φ H μ w Q) (c : Cells K φ H μ) (r : RV K φ H w v) : Q v H := k φ v H (.refl _ _) c r
end
/-! ### numbers -/
@[simp] def iiO (C : Int → Int → Bool) (g : Int → Int → PyData) (_ : Mu) (x y : Vw) : Option Vw := match x, y with
  | .d (.int i), .d (.int j) => if C i j = true then some (.d (g i j)) else none
  | _, _ => none
def vOf : PyData → V
  | .int i => .int i
  | .bool b => .bl b
  | _ => .non
theorem iiO_ok {K : PySem.W.Frag} {C : Int → Int → Bool} {g : Int → Int → PyData} {C' : Int → Int → Prop} {g' : Int → Int → V} (hC : ∀ i j, C i j = true → C' i j) (hg : ∀ i j φ H, Da K φ H (g i j) (g' i j)) : O2 K (rI C' g') (iiO C g) := by
  intro φ H μ x y w u v Q c rx ry e k
  unfold iiO at e
  split at e
  · rename_i i j
    split at e
    · rename_i hc
      cases e
      exact ⟨i, j, rx, ry, hC i j hc, post_here k c (hg i j φ.av H)⟩
    · cases e
  · cases e
theorem iiO_ok0 {K : PySem.W.Frag} {g : Int → Int → PyData} {g' : Int → Int → V} (hg : ∀ i j φ H, Da K φ H (g i j) (g' i j)) : O2 K (rI0 g') (iiO (fun _ _ => true) g) := by
  intro φ H μ x y w u v Q c rx ry e k
  unfold iiO at e
  split at e
  · rename_i i j
    rw [if_pos rfl] at e
    cases e
    exact ⟨i, j, rx, ry, post_here k c (hg i j φ.av H)⟩
  · cases e
def CDivZ (i j : Int) : Prop := j ≠ 0 ∧ j.natAbs.log2 < 9000
theorem op_fdivZ {X : Cx} : OpR X (binaryOp .FloorDiv) (rI CDivZ fun i j => .int (i.fdiv j)) := opI fun _ _ _ _ _ _ _ hc q => floordiv_int hc.1 q (.inl (PyProof.noPylong_of_log2 hc.2))
abbrev oSub := iiO (fun _ _ => true) fun i j => .int (i - j)
/-- a factor is small, or both together are not too long -/
def mulOk (i j : Int) : Bool := decide ((i.natAbs < 2 ^ 64 ∨ j.natAbs < 2 ^ 64) ∨ i.natAbs.log2 + j.natAbs.log2 < 1000000)
def divOk (_ j : Int) : Bool := decide (j ≠ 0 ∧ j.natAbs.log2 < 9000)
theorem mulOk_l {i j : Int} (h : i.natAbs < 2 ^ 64) : mulOk i j = true := decide_eq_true (.inl (.inl h))
theorem mulOk_r {i j : Int} (h : j.natAbs < 2 ^ 64) : mulOk i j = true := decide_eq_true (.inl (.inr h))
theorem mulOk_w {i j : Int} {a b : Nat} (ha : i.natAbs < 2 ^ a) (hb : j.natAbs < 2 ^ b) (h : a + b ≤ 999998) : mulOk i j = true := by
  refine decide_eq_true (.inr ?_)
  have h1 := PySem.Flt.log2_lt_of (Nat.succ_pos a) (Nat.lt_of_lt_of_le ha (Nat.pow_le_pow_right (by decide) (Nat.le_succ a)))
  have h2 := PySem.Flt.log2_lt_of (Nat.succ_pos b) (Nat.lt_of_lt_of_le hb (Nat.pow_le_pow_right (by decide) (Nat.le_succ b)))
  omega
theorem divOk_of {i j : Int} {b : Nat} (h : j ≠ 0) (hb : j.natAbs < 2 ^ b) (h9 : b ≤ 8999) : divOk i j = true := by
  refine decide_eq_true ⟨h, ?_⟩
  have h2 := PySem.Flt.log2_lt_of (Nat.succ_pos b) (Nat.lt_of_lt_of_le hb (Nat.pow_le_pow_right (by decide) (Nat.le_succ b)))
  omega
abbrev oMul := iiO mulOk fun i j => .int (i * j)
abbrev oDiv := iiO divOk fun i j => .int (i.fdiv j)
def CMulV (i j : Int) : Prop := CMul i j ∨ CMulW i j
theorem op_mulV {X : Cx} : OpR X (binaryOp .Mult) (rI CMulV fun i j => .int (i * j)) := opI fun _ _ _ _ _ _ _ hc q => mul_int q (hc.elim (·.ok) (·.ok))
theorem mulOk_C {i j : Int} (h : mulOk i j = true) : CMulV i j := by
  rcases of_decide_eq_true h with (h | h) | h
  · exact .inl (.inl (by omega))
  · exact .inl (.inr (by omega))
  · exact .inr h
abbrev oMod := iiO (fun i j => decide (j ≠ 0)) fun i j => .int (i.fmod j)
abbrev oPow := iiO (fun i j => decide (0 ≤ j ∧ j ≤ 1000000 ∧ i.natAbs < 2 ^ 64)) fun i j => .int (i ^ j.toNat)
abbrev oLt := iiO (fun _ _ => true) fun i j => .bool (decide (i < j))
abbrev oLe := iiO (fun _ _ => true) fun i j => .bool (decide (i ≤ j))
abbrev oGt := iiO (fun _ _ => true) fun i j => .bool (decide (j < i))
abbrev oGe := iiO (fun _ _ => true) fun i j => .bool (decide (j ≤ i))
/-- + : ints, tuples, texts, lists -/
@[simp] def oAdd (μ : Mu) (x y : Vw) : Option Vw := match x, y with
  | .d (.int i), .d (.int j) => some (.d (.int (i + j)))
  | .d (.tuple xs), .d (.tuple ys) => if xs.length + ys.length ≤ 1000000 then some (.d (.tuple (xs ++ ys))) else none
  | x, y => match toLm μ x, toLm μ y with
    | some xs, some ys => if xs.length + ys.length ≤ 1000000 then some (.d (.list (xs ++ ys))) else none
    | _, _ => none
def rAddV (K : PySem.W.Frag) : R2 := fun x y H Q => rI0 (fun i j => .int (i + j)) x y H Q ∨ (rCatA K x y H Q ∨ rCat x y H Q)
theorem op_addV {X : Cx} : OpR X (binaryOp .Add) (rAddV X.K) := OpR.or op_add (OpR.or op_catA op_cat)
theorem oAdd_ok {K : PySem.W.Frag} : O2 K (rAddV K) oAdd := by
  intro φ H μ x y w u v Q c rx ry e k
  unfold oAdd at e
  split at e
  · rename_i i j
    cases e
    exact .inl ⟨i, j, rx, ry, post_here k c rfl⟩
  · rename_i xs ys
    split at e
    · rename_i hl
      cases e
      obtain ⟨a, us, e1, h1, s1⟩ := rx
      obtain ⟨b, vs, e2, h2, s2⟩ := ry
      have l1 := s1.len
      have l2 := s2.len
      refine .inr (.inl ⟨a, b, us, vs, e1, e2, h1, h2, size_ok (by omega), fun z => ?_, fun _ z => ?_, fun _ _ => ?_⟩)
      · subst z
        have : xs = [] := List.eq_nil_of_length_eq_zero l1
        subst this
        exact post_here k c (show RV K φ H (.d (.tuple ([] ++ ys))) _ from ⟨b, vs, rfl, h2, s2⟩)
      · subst z
        have : ys = [] := List.eq_nil_of_length_eq_zero l2
        subst this
        exact post_here k c (show RV K φ H (.d (.tuple (xs ++ []))) _ from ⟨a, us, rfl, h1, by rw [List.append_nil]; exact s1⟩)
      · exact new_tup c (s1.append s2) k
    · cases e
  · split at e
    · rename_i xs ys e1 e2
      split at e
      · rename_i hl
        cases e
        obtain ⟨a, us, q1, h1, s1⟩ := toLm_ok c rx e1
        obtain ⟨b, vs, q2, h2, s2⟩ := toLm_ok c ry e2
        have l1 := s1.len
        have l2 := s2.len
        exact .inr (.inr ⟨a, b, us, vs, q1, q2, h1, h2, size_ok (by omega), new_lst c (s1.append s2) k⟩)
      · cases e
    · cases e
section
variable {X : Cx} {a b : Expr} {pos : Pos} {f g : EF}
theorem ej_add (ha : PE X a (tE X.K f)) (hb : PE X b (tE X.K g)) : PE X (.BinOp a .Add b pos) (tE X.K (eB2 oAdd f g)) := ej_op op_addV oAdd_ok ha hb
theorem ej_sub (ha : PE X a (tE X.K f)) (hb : PE X b (tE X.K g)) : PE X (.BinOp a .Sub b pos) (tE X.K (eB2 oSub f g)) := ej_op op_sub (iiO_ok0 fun _ _ _ _ => rfl) ha hb
theorem ej_mul (ha : PE X a (tE X.K f)) (hb : PE X b (tE X.K g)) : PE X (.BinOp a .Mult b pos) (tE X.K (eB2 oMul f g)) := ej_op op_mulV (iiO_ok (fun i j h => mulOk_C h) fun _ _ _ _ => rfl) ha hb
theorem ej_div (ha : PE X a (tE X.K f)) (hb : PE X b (tE X.K g)) : PE X (.BinOp a .FloorDiv b pos) (tE X.K (eB2 oDiv f g)) := ej_op op_fdivZ (iiO_ok (fun i j h => show j ≠ 0 ∧ j.natAbs.log2 < 9000 from of_decide_eq_true h) fun _ _ _ _ => rfl) ha hb
theorem ej_mod (ha : PE X a (tE X.K f)) (hb : PE X b (tE X.K g)) : PE X (.BinOp a .Mod b pos) (tE X.K (eB2 oMod f g)) := ej_op op_modN (iiO_ok (fun _ _ h => of_decide_eq_true h) fun _ _ _ _ => rfl) ha hb
theorem ej_pow (ha : PE X a (tE X.K f)) (hb : PE X b (tE X.K g)) : PE X (.BinOp a .Pow b pos) (tE X.K (eB2 oPow f g)) := ej_op op_pow (iiO_ok (fun i j h => show 0 ≤ j ∧ j ≤ 1000000 ∧ i.natAbs < 2 ^ 64 from of_decide_eq_true h) fun _ _ _ _ => rfl) ha hb
end
@[simp] def oNeg (_ : Mu) (x : Vw) : Option Vw := match x with
  | .d (.int i) => some (.d (.int (-i)))
  | _ => none
theorem oNeg_ok {K : PySem.W.Frag} : O1 K (rU fun i => .int (-i)) oNeg := by
  intro φ H μ x w u Q c rx e k
  unfold oNeg at e
  split at e
  · rename_i i
    cases e
    exact ⟨i, rx, post_here k c rfl⟩
  · cases e
theorem ej_neg {X : Cx} {a : Expr} {pos : Pos} {f : EF} (ha : PE X a (tE X.K f)) : PE X (.UnaryOp .USub a pos) (tE X.K (eB1 oNeg f)) := ej_un un_neg oNeg_ok ha
/-! ### comparisons -/
@[simp] def oEq (neg : Bool) (μ : Mu) (x y : Vw) : Option Vw := match toD μ x, toD μ y with
  | some p, some q => if (p.plain && q.plain && decide (min p.depth q.depth ≤ 100)) = true then some (.d (.bool (if neg then !PyData.eqv p q else PyData.eqv p q))) else none
  | _, _ => none
def rEqP (K : PySem.W.Frag) (neg : Bool) : R2 := fun x y H Q => ∃ p q, Dp K H x p ∧ Dp K H y q ∧ p.plain = true ∧ q.plain = true ∧ min p.depth q.depth ≤ 100 ∧ Q (.bl (if neg then !PyData.eqv p q else PyData.eqv p q)) H
theorem op_eqP {X : Cx} (hu : X.A.units + 200 < cLine) : OpR X (compareOp .Eq) (rEqP X.K false) := by
  intro pins s σ H x y v u Q I rx ry h
  obtain ⟨d, e, hd, he, sd, se, hm, q⟩ := h
  obtain ⟨as, r1⟩ := Dp.reads I d x v hd rx
  obtain ⟨bs, r2⟩ := Dp.reads I e y u he ry
  exact SeqAt.eq_plain r1 r2 sd se (by omega) ⟨.bl _, H, I, rfl, q⟩
theorem op_neP {X : Cx} (hu : X.A.units + 200 < cLine) : OpR X (compareOp .NotEq) (rEqP X.K true) := by
  intro pins s σ H x y v u Q I rx ry h
  obtain ⟨d, e, hd, he, sd, se, hm, q⟩ := h
  obtain ⟨as, r1⟩ := Dp.reads I d x v hd rx
  obtain ⟨bs, r2⟩ := Dp.reads I e y u he ry
  exact SeqAt.ne_plain r1 r2 sd se (by omega) ⟨.bl _, H, I, rfl, q⟩
theorem oEq_ok {K : PySem.W.Frag} {neg : Bool} : O2 K (rEqP K neg) (oEq neg) := by
  intro φ H μ x y w u v Q c rx ry e k
  unfold oEq at e
  split at e
  · rename_i p q e1 e2
    split at e
    · rename_i hc
      cases e
      simp only [Bool.and_eq_true, decide_eq_true_eq] at hc
      obtain ⟨⟨h1, h2⟩, h3⟩ := hc
      exact ⟨p, q, toD_ok c rx e1 h1, toD_ok c ry e2 h2, h1, h2, h3, post_here k c rfl⟩
    · cases e
  · cases e
/-- in, not in a list, a tuple -/
@[simp] def oIn (neg : Bool) (μ : Mu) (x y : Vw) : Option Vw := match toD μ x, toD μ y with
  | some p, some (.list qs) => if (p.plain && PyData.plainAll qs && decide (min (PyData.depthAll qs) p.depth ≤ 100)) = true then some (.d (.bool (if neg then !qs.any fun z => PyData.eqv z p else qs.any fun z => PyData.eqv z p))) else none
  | some p, some (.tuple qs) => if (p.plain && PyData.plainAll qs && decide (min (PyData.depthAll qs) p.depth ≤ 100)) = true then some (.d (.bool (if neg then !qs.any fun z => PyData.eqv z p else qs.any fun z => PyData.eqv z p))) else none
  | _, _ => none
def rInP (K : PySem.W.Frag) (neg : Bool) : R2 := fun x y H Q => ∃ p qs, Dp K H x p ∧ (Dp K H y (.list qs) ∨ Dp K H y (.tuple qs)) ∧ p.plain = true ∧ PyData.plainAll qs = true ∧ min (PyData.depthAll qs) p.depth ≤ 100 ∧ Q (.bl (if neg then !qs.any fun z => PyData.eqv z p else qs.any fun z => PyData.eqv z p)) H
theorem op_inP {X : Cx} (hu : X.A.units + 200 < cLine) : OpR X (compareOp .In) (rInP X.K false) := by
  intro pins s σ H x y v u Q I rx ry h
  obtain ⟨d, e, hd, he, sd, se, hm, q⟩ := h
  obtain ⟨as, r1⟩ := Dp.reads I d x v hd rx
  rcases he with he | he
  · obtain ⟨bs, r2⟩ := Dp.reads I _ y u he ry
    exact SeqAt.in_list_data r2 r1 se sd (by omega) ⟨.bl _, H, I, rfl, q⟩
  · obtain ⟨bs, r2⟩ := Dp.reads I _ y u he ry
    exact SeqAt.in_tuple_data r2 r1 se sd (by omega) ⟨.bl _, H, I, rfl, q⟩
theorem op_niP {X : Cx} (hu : X.A.units + 200 < cLine) : OpR X (compareOp .NotIn) (rInP X.K true) := by
  intro pins s σ H x y v u Q I rx ry h
  obtain ⟨d, e, hd, he, sd, se, hm, q⟩ := h
  obtain ⟨as, r1⟩ := Dp.reads I d x v hd rx
  rcases he with he | he
  · obtain ⟨bs, r2⟩ := Dp.reads I _ y u he ry
    exact SeqAt.notIn_list_data r2 r1 se sd (by omega) ⟨.bl _, H, I, rfl, q⟩
  · obtain ⟨bs, r2⟩ := Dp.reads I _ y u he ry
    exact SeqAt.notIn_tuple_data r2 r1 se sd (by omega) ⟨.bl _, H, I, rfl, q⟩
theorem oIn_ok {K : PySem.W.Frag} {neg : Bool} : O2 K (rInP K neg) (oIn neg) := by
  intro φ H μ x y w u v Q c rx ry e k
  unfold oIn at e
  split at e
  · rename_i p qs e1 e2
    split at e
    · rename_i hc
      cases e
      simp only [Bool.and_eq_true, decide_eq_true_eq] at hc
      obtain ⟨⟨h1, h2⟩, h3⟩ := hc
      exact ⟨p, qs, toD_ok c rx e1 h1, .inl (toD_ok c ry e2 h2), h1, h2, h3, post_here k c rfl⟩
    · cases e
  · rename_i p qs e1 e2
    split at e
    · rename_i hc
      cases e
      simp only [Bool.and_eq_true, decide_eq_true_eq] at hc
      obtain ⟨⟨h1, h2⟩, h3⟩ := hc
      exact ⟨p, qs, toD_ok c rx e1 h1, .inr (toD_ok c ry e2 h2), h1, h2, h3, post_here k c rfl⟩
    · cases e
  · cases e
/-- x is None, x is not None -/
@[simp] def oIs (neg : Bool) (μ : Mu) (x y : Vw) : Option Vw := match x, y with
  | .d p, .d .none => some (.d (.bool (match p with
    | .none => !neg
    | _ => neg)))
  | _, _ => none
theorem oIs_ok {K : PySem.W.Frag} : O2 K (fun x y H Q => y = .non ∧ Q (.bl (decide (x = .non))) H) (oIs false) := by
  intro φ H μ x y w u v Q c rx ry e k
  unfold oIs at e
  split at e
  · rename_i p
    cases e
    refine ⟨ry, ?_⟩
    cases p with
    | none => cases rx; exact post_here k c rfl
    | bool _ => cases rx; exact post_here k c rfl
    | int _ => cases rx; exact post_here k c rfl
    | str _ => cases rx; exact post_here k c rfl
    | list _ => obtain ⟨a, _, e, _⟩ := rx; subst e; exact post_here k c rfl
    | tuple _ => obtain ⟨a, _, e, _⟩ := rx; subst e; exact post_here k c rfl
    | dict _ => obtain ⟨_, a, e, _⟩ := rx; subst e; exact post_here k c rfl
  · cases e
theorem oIsNot_ok {K : PySem.W.Frag} : O2 K (fun x y H Q => y = .non ∧ Q (.bl (!decide (x = .non))) H) (oIs true) := by
  intro φ H μ x y w u v Q c rx ry e k
  unfold oIs at e
  split at e
  · rename_i p
    cases e
    refine ⟨ry, ?_⟩
    cases p with
    | none => cases rx; exact post_here k c rfl
    | bool _ => cases rx; exact post_here k c rfl
    | int _ => cases rx; exact post_here k c rfl
    | str _ => cases rx; exact post_here k c rfl
    | list _ => obtain ⟨a, _, e, _⟩ := rx; subst e; exact post_here k c rfl
    | tuple _ => obtain ⟨a, _, e, _⟩ := rx; subst e; exact post_here k c rfl
    | dict _ => obtain ⟨_, a, e, _⟩ := rx; subst e; exact post_here k c rfl
  · cases e
/-! ### items -/
@[simp] def oIx (μ : Mu) (x y : Vw) : Option Vw := match x, y with
  | .d (.tuple ds), .d (.int i) => (atI ds i).map Vw.d
  | x, .d (.int i) => (toL μ x).bind fun ds => (atI ds i).map Vw.d
  | _, _ => none
def rIxV (K : PySem.W.Frag) : R2 := fun x y H Q => rIxL K x y H Q ∨ rIxT K x y H Q
theorem ix_V {X : Cx} : IxR X (rIxV X.K) := IxR.or ix_list ix_tup
theorem atI_da {K : PySem.W.Frag} {φ : List Addr} {H : Hp} {ds : List PyData} {xs : List V} {i : Int} {d : PyData} (h : DaAll K φ H ds xs) (e : atI ds i = some d) : ∃ v, atI xs i = some v ∧ Da K φ H d v := by
  unfold atI at e ⊢
  rw [← h.len]
  cases q : ixN ds.length i with
  | none => rw [q] at e; cases e
  | some j =>
    rw [q] at e
    exact h.get (show ds[j]? = some d from e)
theorem oIx_ok {K : PySem.W.Frag} : O2 K (rIxV K) oIx := by
  intro φ H μ x y w u v Q c rx ry e k
  unfold oIx at e
  split at e
  · rename_i ds i
    obtain ⟨d, e1, e2⟩ := Option.map_eq_some_iff.mp e
    cases e2
    obtain ⟨a, xs, q, h, s⟩ := rx
    obtain ⟨z, z1, z2⟩ := atI_da s e1
    exact .inr ⟨a, xs, i, z, q, ry, h, z1, post_here k c z2⟩
  · rename_i i hne
    obtain ⟨ds, e0, e⟩ := Option.bind_eq_some_iff.mp e
    obtain ⟨d, e1, e2⟩ := Option.map_eq_some_iff.mp e
    cases e2
    obtain ⟨a, xs, q, h, s⟩ := toL_ok c rx e0
    obtain ⟨z, z1, z2⟩ := atI_da s e1
    exact .inl ⟨a, xs, i, z, q, ry, h, z1, post_here k c z2⟩
  · cases e
section
variable {X : Cx} {a b : Expr} {pos : Pos} {f g : EF}
theorem ej_item (ha : PE X a (tE X.K f)) (hb : PE X b (tE X.K g)) (hs : PlainIx b := by exact fun _ _ => rfl) : PE X (.Subscript a b pos) (tE X.K (eB2 oIx f g)) := ej_ix ix_V oIx_ok ha hb hs
end
end VL
end
section
set_option Elab.async false
set_option linter.all false
set_option maxRecDepth 100000
namespace VL
open PySem PySem.Spec PyProof.Rows L2
theorem wipe_put {i : Nat} {v : V} {σ : L2.St} : ∀ {us : List Nat}, i ∈ us → wipe (σ.set i (some v)) us = wipe σ us
  | [], h => by cases h
  | u :: us, h => by
    unfold wipe
    by_cases e : i ∈ us
    · rw [wipe_put e]
    · have e2 : i = u := by
        rcases List.mem_cons.mp h with h | h
        · exact h
        · exact absurd h e
      subst e2
      apply List.ext_getElem?
      intro j
      by_cases ej : j = i
      · subst ej
        by_cases hl : j < σ.length
        · rw [List.getElem?_set_self (by rw [wipe_length, List.length_set]; exact hl), List.getElem?_set_self (by rw [wipe_length]; exact hl)]
        · rw [List.getElem?_eq_none (by simp [wipe_length]; omega), List.getElem?_eq_none (by simp [wipe_length]; omega)]
      · rw [List.getElem?_set_ne (Ne.symm ej), List.getElem?_set_ne (Ne.symm ej)]
        by_cases hj : j ∈ us
        · have aux : ∀ (τ τ' : L2.St) (ws : List Nat), τ.length = τ'.length → j ∈ ws → (wipe τ ws)[j]? = (wipe τ' ws)[j]? := by
            intro τ τ' ws hlen
            induction ws with
            | nil => intro z; cases z
            | cons w ws ih =>
              intro z
              unfold wipe
              by_cases ew : j = w
              · subst ew
                by_cases hl : j < τ.length
                · rw [List.getElem?_set_self (by rw [wipe_length]; exact hl), List.getElem?_set_self (by rw [wipe_length, ← hlen]; exact hl)]
                · rw [List.getElem?_eq_none (by simp [wipe_length]; omega), List.getElem?_eq_none (by simp [wipe_length]; omega)]
              · rw [List.getElem?_set_ne (Ne.symm ew), List.getElem?_set_ne (Ne.symm ew)]
                exact ih ((List.mem_cons.mp z).resolve_left ew)
          exact aux _ _ us (by simp) hj
        · rw [wipe_out hj, wipe_out hj, List.getElem?_set_ne (Ne.symm ej)]
/-! ### targets -/
abbrev TF := Vw → Rho → Option Rho
abbrev TLF := List PyData → Rho → Option Rho
@[simp] def tNm (i : Nat) (w : Vw) (ρ : Rho) : Option Rho := some (ρ.set i (some w))
@[simp] def tTp (t : TLF) (w : Vw) (ρ : Rho) : Option Rho := match w with
  | .d (.tuple ds) => t ds ρ
  | _ => none
@[simp] def lNil (ds : List PyData) (ρ : Rho) : Option Rho := match ds with
  | [] => some ρ
  | _ :: _ => none
@[simp] def lCons (t : TF) (u : TLF) (ds : List PyData) (ρ : Rho) : Option Rho := match ds with
  | [] => none
  | d :: r => (t (.d d) ρ).bind (u r)
def tG (K : PySem.W.Frag) (t : TF) (vs : List Nat) : TG := fun v σ H Q => ∃ φ ρ μ w ρ', RS K φ σ H ρ μ ∧ RV K φ H w v ∧ t w ρ = some ρ' ∧ ∀ σ', RS K φ σ' H ρ' μ → (∀ us : List Nat, (∀ i ∈ vs, i ∈ us) → wipe σ' us = wipe σ us) → Q σ' H
def tGs (K : PySem.W.Frag) (n : Nat) (t : TLF) (vs : List Nat) : TGs := fun xs σ H Q => ∃ φ ρ μ ds ρ', RS K φ σ H ρ μ ∧ DaAll K φ.av H ds xs ∧ t ds ρ = some ρ' ∧ ∀ σ', RS K φ σ' H ρ' μ → (∀ us : List Nat, (∀ i ∈ vs, i ∈ us) → wipe σ' us = wipe σ us) → Q σ' H
theorem PG.to {X : Cx} {e : Expr} {t u : TG} (h : PG X e t) (k : ∀ v σ H Q, u v σ H Q → t v σ H Q) : PG X e u := ⟨fun pins s σ H x v Q I r q => h.run pins s σ H x v Q I r (k x σ H Q q)⟩
theorem PGs.to {X : Cx} {e : List Expr} {t u : TGs} (h : PGs X e t) (k : ∀ v σ H Q, u v σ H Q → t v σ H Q) : PGs X e u := ⟨fun pins s σ H x v Q I r q => h.run pins s σ H x v Q I r (k x σ H Q q)⟩
section
variable {X : Cx} {pos : Pos}
theorem gj_nm (i : Nat) {x : Str} (hN : X.N.Nodup) (hi : X.N[i]? = some x := by rfl) (hx : Loc X.env.scope x := by first | exact Or.inl rfl | exact Or.inr rfl) (hf : X.fn x = true ∨ X.env.scope.names.lookup x = some .local := by first | exact .inl rfl | exact .inr rfl) : PG X (.Name x pos) (tG X.K (tNm i) [i]) :=
  PG.to (pg_name hN hi hx hf) fun v σ H Q ⟨φ, ρ, μ, w, ρ', rs, rv, e, k⟩ => by
    cases e
    exact k _ (rs.put rv) fun us hu => wipe_put (hu i (by simp))
theorem gjs_nil : PGs X [] (tGs X.K 0 lNil []) := PGs.to pgs_nil fun xs σ H Q ⟨φ, ρ, μ, ds, ρ', rs, hd, e, k⟩ => by
  cases ds with
  | nil => cases e; exact ⟨hd, k σ rs fun _ _ => rfl⟩
  | cons d ds => cases e
theorem gjs_cons {a : Expr} {es : List Expr} {t : TF} {u : TLF} {vs ws : List Nat} {n : Nat} (h1 : PG X a (tG X.K t vs)) (h2 : PGs X es (tGs X.K n u ws)) (hs : (assignEach (a :: es) X.env).map (·.2) = assign a X.env :: (assignEach es X.env).map (·.2) := by rfl) :
    PGs X (a :: es) (tGs X.K (n + 1) (lCons t u) (vs ++ ws)) := PGs.to (pgs_cons h1 h2 hs) fun xs σ H Q ⟨φ, ρ, μ, ds, ρ', rs, hd, e, k⟩ => by
  cases ds with
  | nil => cases e
  | cons d ds =>
    obtain ⟨v, r, ev, h3, h4⟩ := hd
    obtain ⟨ρ1, e1, e2⟩ := Option.bind_eq_some_iff.mp e
    refine ⟨v, r, ev, φ, ρ, μ, .d d, ρ1, rs, h3, e1, fun σ1 rs1 w1 => ?_⟩
    refine ⟨φ, ρ1, μ, ds, ρ', rs1, h4, e2, fun σ2 rs2 w2 => ?_⟩
    exact k σ2 rs2 fun us hu => (w2 us fun i hi => hu i (List.mem_append_right _ hi)).trans (w1 us fun i hi => hu i (List.mem_append_left _ hi))
theorem tlf_len : True := trivial
theorem gj_tp {es : List Expr} {k : Nat} {u : TLF} {vs : List Nat} {n : Nat} (hc : X.calm = true) (h : PGs X es (tGs X.K n u vs)) (hl : ∀ ds ρ ρ', u ds ρ = some ρ' → ds.length = n)
    (hn : (assignEach es X.env).length = n := by rfl) (hst : (assignEach es X.env).findIdx? (·.1) = none := by rfl) : PG X (.Tuple es k pos) (tG X.K (tTp u) vs) :=
  PG.to (pg_tup hc h hn hst) fun v σ H Q ⟨φ, ρ, μ, w, ρ', rs, rv, e, k⟩ => by
    unfold tTp at e
    split at e
    · rename_i ds
      obtain ⟨a, xs, e1, h1, h2⟩ := rv
      exact ⟨a, xs, e1, h1, by rw [← h2.len]; exact hl ds ρ ρ' e, φ, ρ, μ, ds, ρ', rs, h2, e, k⟩
    · cases e
theorem lNil_len : ∀ ds ρ ρ', lNil ds ρ = some ρ' → ds.length = 0 := fun ds ρ ρ' e => by
  cases ds with
  | nil => rfl
  | cons d ds => cases e
theorem lCons_len {t : TF} {u : TLF} {n : Nat} (h : ∀ ds ρ ρ', u ds ρ = some ρ' → ds.length = n) : ∀ ds ρ ρ', lCons t u ds ρ = some ρ' → ds.length = n + 1 := fun ds ρ ρ' e => by
  cases ds with
  | nil => cases e
  | cons d ds =>
    obtain ⟨ρ1, e1, e2⟩ := Option.bind_eq_some_iff.mp e
    rw [List.length_cons, h ds ρ1 ρ' e2]
/-! ### statements -/
@[simp] def sNx (ρ : Rho) (μ : Mu) : Option SR := some (.nx ρ μ)
@[simp] def sNever (_ : Rho) (_ : Mu) : Option SR := none
@[simp] def sSeq (g h : SF) (ρ : Rho) (μ : Mu) : Option SR := match g ρ μ with
  | some (.nx ρ1 μ1) => h ρ1 μ1
  | r => r
@[simp] def sAsg (f : EF) (t : TF) (ρ : Rho) (μ : Mu) : Option SR := match f ρ μ with
  | some (w, μ1) => (t w ρ).map fun ρ1 => .nx ρ1 μ1
  | none => none
@[simp] def sPar (i j : Nat) (f : AF) (ρ : Rho) (μ : Mu) : Option SR := match f ρ μ with
  | some ([v, w], μ1) => some (.nx ((ρ.set i (some v)).set j (some w)) μ1)
  | _ => none
@[simp] def sIf (t : BF) (g h : SF) (ρ : Rho) (μ : Mu) : Option SR := match t ρ μ with
  | some (true, μ1) => g ρ μ1
  | some (false, μ1) => h ρ μ1
  | none => none
@[simp] def sRet (f : EF) (ρ : Rho) (μ : Mu) : Option SR := (f ρ μ).map fun r => .rt r.1 r.2
@[simp] def sDrop (f : EF) (ρ : Rho) (μ : Mu) : Option SR := (f ρ μ).map fun r => .nx ρ r.2
theorem ssj_nil : PSs X [] (tS X.K sNx) := PSs.to pss_nil fun D σ H ⟨φ, ρ, μ, rs, k⟩ => k φ σ H (.refl _ _) rs
theorem sj_pass : PS X (.Pass pos) (tS X.K sNx) := PS.to ps_pass fun D σ H ⟨φ, ρ, μ, rs, k⟩ => k φ σ H (.refl _ _) rs
theorem sj_never {st : Stmt} : PS X st (tS X.K sNever) := PS.to ps_never fun D σ H ⟨φ, ρ, μ, rs, k⟩ => k
theorem ssj_one {st : Stmt} {g : SF} (h : PS X st (tS X.K g)) : PSs X [st] (tS X.K g) := pss_one h
theorem ssj_cons {st : Stmt} {rest : List Stmt} {g h : SF} (h1 : PS X st (tS X.K g)) (h2 : PSs X rest (tS X.K h)) : PSs X (st :: rest) (tS X.K (sSeq g h)) := PSs.to (pss_cons h1 h2) fun D σ H ⟨φ, ρ, μ, rs, k⟩ => by
  refine ⟨φ, ρ, μ, rs, ?_⟩
  unfold sSeq at k
  cases e : g ρ μ with
  | none => rw [e] at k; exact k
  | some r =>
    rw [e] at k
    cases r with
    | nx ρ1 μ1 => exact fun φ1 σ1 H1 g1 r1 => ⟨φ1, ρ1, μ1, r1, k.grow g1⟩
    | rt w μ1 => exact k
    | bk ρ1 μ1 => exact k
    | ct ρ1 μ1 => exact k
theorem sj_ret {e : Expr} {f : EF} (h : PE X e (tE X.K f)) : PS X (.Return (some e) pos) (tS X.K (sRet f)) := PS.to (ps_ret h) fun D σ H ⟨φ, ρ, μ, rs, k⟩ => by
  unfold sRet at k
  cases e1 : f ρ μ with
  | none => rw [e1] at k; exact k.elim
  | some r =>
    rw [e1] at k
    exact ⟨φ, ρ, μ, r.1, r.2, rs, e1, k⟩
theorem sj_retN : PS X (.Return none pos) (tS X.K (sRet (eC .none))) := PS.to ps_retN fun D σ H ⟨φ, ρ, μ, rs, k⟩ => k φ .non H (.refl _ _) rs.c rfl
theorem sj_expr {e : Expr} {f : EF} (h : PE X e (tE X.K f)) (hs : swapsWith e none pos.line X.env = pure false := by rfl) : PS X (.Expr e pos) (tS X.K (sDrop f)) := PS.to (ps_expr h hs) fun D σ H ⟨φ, ρ, μ, rs, k⟩ => by
  unfold sDrop at k
  cases e1 : f ρ μ with
  | none => rw [e1] at k; exact k.elim
  | some r =>
    rw [e1] at k
    exact ⟨φ, ρ, μ, r.1, r.2, rs, e1, fun φ1 v1 H1 g1 c1 r1 => k φ1 σ H1 g1 (rs.step g1 c1)⟩
theorem tS_asg {K : PySem.W.Frag} {f : EF} {t : TF} {vs : List Nat} : ∀ D σ H, tS K (sAsg f t) D σ H → tAsg (tE K f) (tG K t vs) D σ H := fun D σ H ⟨φ, ρ, μ, rs, k⟩ => by
  unfold sAsg at k
  cases e1 : f ρ μ with
  | none => rw [e1] at k; exact k.elim
  | some r =>
    obtain ⟨w, μ1⟩ := r
    rw [e1] at k
    simp only at k
    cases e2 : t w ρ with
    | none => rw [e2] at k; exact k.elim
    | some ρ1 =>
      rw [e2] at k
      refine ⟨φ, ρ, μ, w, μ1, rs, e1, fun φ1 v1 H1 g1 c1 r1 => ?_⟩
      exact ⟨φ1, ρ, μ1, w, ρ1, rs.step g1 c1, r1, e2, fun σ2 r2 _ => k φ1 σ2 H1 g1 r2⟩
theorem sj_asg {tg e : Expr} {f : EF} {t : TF} {vs : List Nat} (he : PE X e (tE X.K f)) (hg : PG X tg (tG X.K t vs)) (hs : swapsWithSole [tg] e pos.line X.env = pure false := by rfl) (hw : swappedStores [tg] e X.env = pure none := by rfl) (h1 : (assignEach [tg] X.env).map (·.2) = [assign tg X.env] := by rfl) :
    PS X (.Assign [tg] e pos) (tS X.K (sAsg f t)) := PS.to (ps_asg he hg hs hw h1) tS_asg
theorem sj_set {i : Nat} {x : Str} {e : Expr} {f : EF} {pos' : Pos} (hN : X.N.Nodup) (he : PE X e (tE X.K f)) (hi : X.N[i]? = some x := by rfl) (hx : Loc X.env.scope x := by first | exact Or.inl rfl | exact Or.inr rfl) (hs : swapsWith e (some (.Name x pos')) pos.line X.env = pure false := by rfl)
    (hf : X.fn x = true ∨ X.env.scope.names.lookup x = some .local := by first | exact .inl rfl | exact .inr rfl) : PS X (.Assign [.Name x pos'] e pos) (tS X.K (sAsg f (tNm i))) := PS.to (ps_set hN hi hx he hs hf) fun D σ H q => by
  obtain ⟨φ, ρ, μ, w, μ1, rs, e1, k⟩ := tS_asg (vs := [i]) D σ H q
  refine ⟨φ, ρ, μ, w, μ1, rs, e1, fun φ1 v1 H1 g1 c1 r1 => ?_⟩
  obtain ⟨φ2, ρ2, μ2, w2, ρ3, rs2, rv2, e2, k2⟩ := k φ1 v1 H1 g1 c1 r1
  cases e2
  exact k2 _ (rs2.put rv2) fun us hu => wipe_put (hu i (by simp))
theorem sj_par {i j : Nat} {x y : Str} {a b : Expr} {f : AF} {px py pt : Pos} {kt k2 pt2} (hc : X.calm = true) (hN : X.N.Nodup) (hij : i ≠ j) (ha : PA X [a, b] (tA X.K f)) (hi : X.N[i]? = some x := by rfl) (hj : X.N[j]? = some y := by rfl)
    (hx : X.env.scope.names.lookup x = some .local := by rfl) (hy : X.env.scope.names.lookup y = some .local := by rfl)
    (hw : swappedStores [.Tuple [.Name x px, .Name y py] kt pt] (.Tuple [a, b] k2 pt2) X.env = pure (some [x, y]) := by rfl)
    (hs : swapsWithSole [.Tuple [.Name x px, .Name y py] kt pt] (.Tuple [a, b] k2 pt2) pos.line X.env = pure false := by rfl) :
    PS X (.Assign [.Tuple [.Name x px, .Name y py] kt pt] (.Tuple [a, b] k2 pt2) pos) (tS X.K (sPar i j f)) := PS.to (ps_par hc hN hi hj hij hx hy ha hw hs) fun D σ H ⟨φ, ρ, μ, rs, k⟩ => by
  unfold sPar at k
  split at k
  · rename_i v w μ1 e1
    refine ⟨φ, ρ, μ, _, μ1, rs, e1, fun φ1 vs H1 g1 c1 r1 => ?_⟩
    obtain ⟨u1, r, e2, h1, u2, r', e3, h2, e4⟩ := r1
    subst e2 e3
    have e5 : r' = [] := e4
    subst e5
    exact ⟨u1, u2, rfl, k φ1 _ H1 g1 (((rs.step g1 c1).put h1).put h2)⟩
  · exact k.elim
theorem sj_if {c : Expr} {a b : List Stmt} {t : BF} {g h : SF} (hc : PT X c (tT X.K t)) (ha : PSs X a (tS X.K g)) (hb : PSs X b (tS X.K h)) : PS X (.If c a b pos) (tS X.K (sIf t g h)) := PS.to (ps_if hc ha hb) fun D σ H ⟨φ, ρ, μ, rs, k⟩ => by
  unfold sIf at k
  cases e1 : t ρ μ with
  | none => rw [e1] at k; exact k.elim
  | some r =>
    obtain ⟨d, μ1⟩ := r
    rw [e1] at k
    refine ⟨φ, ρ, μ, d, μ1, rs, e1, fun φ1 H1 g1 c1 => ?_⟩
    cases d with
    | true =>
      refine L2.iteT ?_
      exact ⟨φ1, ρ, μ1, rs.step g1 c1, SPost.grow g1 k⟩
    | false =>
      refine L2.iteF ?_
      exact ⟨φ1, ρ, μ1, rs.step g1 c1, SPost.grow g1 k⟩
end
end VL
end
section
set_option Elab.async false
set_option linter.all false
set_option maxRecDepth 100000
namespace VL
open PySem PySem.Spec PyProof.Rows L2
section
variable {K : PySem.W.Frag} {φ φ' : Ph} {H H' : Hp} {μ : Mu}
/-- the changed list of number n is written -/
theorem cell_write (c : Cells K φ H μ) {n : Nat} {a : Addr} {ds : List PyData} {xs : List V} (ha : φ.2[n]? = some a) (hs : DaAll K φ.av H ds xs) : Grow φ φ H (upd H a (.lst xs)) ∧ Cells K φ (upd H a (.lst xs)) (μ.set n ds) := by
  have hn : n < μ.length := by rw [← c.len]; exact (List.getElem?_eq_some_iff.mp ha).1
  obtain ⟨ys, hy, _⟩ := c.at_ n a μ[n] ha (by simp [hn])
  have g : Grow φ φ H (upd H a (.lst xs)) := by
    refine ⟨⟨[], by simp, by simp⟩, ⟨[], by simp, by simp⟩, fun b o h hb => ?_, fun b h => ?_⟩
    · by_cases e : b = a
      · subst e
        rw [hy] at h; cases h
        exact absurd rfl (hb (List.mem_of_getElem? ha) ys)
      · rw [upd_ne e]; exact h
    · by_cases e : b = a
      · subst e; rw [upd_same] at h; cases h
      · rw [upd_ne e] at h; exact h
  refine ⟨g, c.nd, by simp [c.len], fun m b es h1 h2 => ?_, fun b hb z => c.tr b hb (g.live b z)⟩
  by_cases e : m = n
  · subst e
    rw [ha] at h1; cases h1
    rw [List.getElem?_set_self hn] at h2; cases h2
    exact ⟨xs, upd_same, DaAll.step g _ _ hs⟩
  · rw [List.getElem?_set_ne (Ne.symm e)] at h2
    obtain ⟨zs, h3, h4⟩ := c.at_ m b es h1 h2
    have nb : b ≠ a := fun z => by
      subst z
      have h5 := List.getElem?_eq_some_iff.mp h1
      have h6 := List.getElem?_eq_some_iff.mp ha
      exact e ((List.getElem_inj c.nd).mp (h5.2.trans h6.2.symm))
    exact ⟨zs, by rw [upd_ne nb]; exact h3, DaAll.step g _ _ h4⟩
end
/-! ### o[i] = e of a changed list -/
@[simp] def sSubS (fe fo fi : EF) (ρ : Rho) (μ : Mu) : Option SR := match fe ρ μ with
  | some (.d p, μ1) => (match fo ρ μ1 with
    | some (.loc n, μ2) => (match fi ρ μ2 with
      | some (.d (.int k), μ3) => (match μ3[n]? with
        | some ds => (ixN ds.length k).map fun j => .nx ρ (μ3.set n (ds.set j p))
        | none => none)
      | _ => none)
    | _ => none)
  | _ => none
section
variable {X : Cx} {pos : Pos}
theorem sj_sub {o i e : Expr} {fe fo fi : EF} {p2 : Pos} (he : PE X e (tE X.K fe)) (ho : PE X o (tE X.K fo)) (hi : PE X i (tE X.K fi)) (ha : ∀ v, assign (.Subscript o i p2) X.env v = (do
      let ov ← holding [v] (eval o X.env)
      let iv ← holding [v, ov] (eval i X.env)
      standAt p2
      holding [v, ov, iv] (setItem ov iv v)
      release [v, ov, iv] []) := by intro _; rfl) (hs : swapsWithSole [.Subscript o i p2] e pos.line X.env = pure false := by rfl) (hw : swappedStores [.Subscript o i p2] e X.env = pure none := by rfl) (h1 : (assignEach [.Subscript o i p2] X.env).map (·.2) = [assign (.Subscript o i p2) X.env] := by rfl) :
    PS X (.Assign [.Subscript o i p2] e pos) (tS X.K (sSubS fe fo fi)) := PS.to (ps_asg he (pg_sub ho hi set_list ha) hs hw h1) fun D σ H ⟨φ, ρ, μ, rs, k⟩ => by
  unfold sSubS at k
  split at k
  · rename_i p μ1 e1
    refine ⟨φ, ρ, μ, _, μ1, rs, e1, fun φ1 v1 H1 g1 c1 r1 => ?_⟩
    have rs1 := rs.step g1 c1
    split at k
    · rename_i n μ2 e2
      refine ⟨φ1, ρ, μ1, _, μ2, rs1, e2, fun φ2 v2 H2 g2 c2 r2 => ?_⟩
      have rs2 := rs1.step g2 c2
      split at k
      · rename_i kk μ3 e3
        refine ⟨φ2, ρ, μ2, _, μ3, rs2, e3, fun φ3 v3 H3 g3 c3 r3 => ?_⟩
        split at k
        · rename_i ds e4
          cases e5 : ixN ds.length kk with
          | none => rw [e5] at k; exact k.elim
          | some j =>
            rw [e5] at k
            obtain ⟨a, h1, h2⟩ := RV.step g3 _ _ r2
            obtain ⟨xs, h3, h4⟩ := c3.at_ n a ds h1 e4
            have hp := Da.step (g2.trans g3) p v1 r1
            refine ⟨a, xs, kk, j, h2, r3, h3, by rw [← h4.len]; exact e5, ?_⟩
            obtain ⟨g4, c4⟩ := cell_write c3 h1 (DaAll.set hp j h4)
            exact k φ3 σ _ (((g1.trans g2).trans g3).trans g4) ((rs2.step g3 c3).step g4 c4)
        · exact k.elim
      · exact k.elim
    · exact k.elim
  · exact k.elim
/-! ### x.append(e) -/
@[simp] def sApp (fo fe : EF) (ρ : Rho) (μ : Mu) : Option SR := match fo ρ μ with
  | some (.loc n, μ1) => (match fe ρ μ1 with
    | some (.d p, μ2) => (match μ2[n]? with
      | some ds => if ds.length < 1000000 then some (.nx ρ (μ2.set n (ds ++ [p]))) else none
      | none => none)
    | _ => none)
  | _ => none
theorem sj_app {o e : Expr} {fo fe : EF} {apos cpos : Pos} (ho : PE X o (tE X.K fo)) (he : PE X e (tE X.K fe)) (hbase : attributeBase o "append" X.env (eval o X.env) = eval o X.env := by rfl)
    (hfew : ((backTo cpos (starEach [e] X.env)).all (fun x => !x.1) && (backToKw cpos (keywordEach [] X.env)).all (fun x => x.1.isSome) && decide (([e] : List Expr).length + ([] : List Keyword).length + (if ([] : List Keyword).isEmpty then 0 else 1) < 30)) = true := by rfl)
    (hline : (apos.endLine == cpos.line) = true := by rfl) (hs : starEach [e] X.env = (false, eval e X.env) :: starEach [] X.env := by rfl) (hplain : (backTo cpos (starEach [] X.env)).any (·.1) = false := by rfl)
    (hsw : swapsWith (.Call (.Attribute o "append" apos) [e] [] cpos) none pos.line X.env = pure false := by rfl) : PS X (.Expr (.Call (.Attribute o "append" apos) [e] [] cpos) pos) (tS X.K (sApp fo fe)) :=
  PS.to (ps_expr (pe_bm PySem.F.plainAttrs_list PySem.F.slot_list_append PySem.F.type_list_append mt_append ho (aj_cons he aj_nil hs) hbase hfew hline hs hplain) hsw) fun D σ H ⟨φ, ρ, μ, rs, k⟩ => by
  unfold sApp at k
  split at k
  · rename_i n μ1 e1
    refine ⟨φ, ρ, μ, _, μ1, rs, e1, fun φ1 v1 H1 g1 c1 r1 => ?_⟩
    have rs1 := rs.step g1 c1
    obtain ⟨a, h1, h2⟩ := id r1
    obtain ⟨xs, hx⟩ := c1.mem (List.mem_of_getElem? h1)
    subst h2
    refine ⟨.inl ⟨rfl, xs, SqL.of hx⟩, ?_⟩
    split at k
    · rename_i p μ2 e2
      refine ⟨φ1, ρ, μ1, [.d p], μ2, rs1, by unfold aCons aNil; rw [e2]; rfl, fun φ2 vs H2 g2 c2 r2 => ?_⟩
      obtain ⟨v, r, ev, h3, h4⟩ := r2
      have h5 : r = [] := h4
      subst ev h5
      split at k
      · rename_i ds e4
        split at k
        · rename_i hl
          obtain ⟨b, h6, h7⟩ := RV.step g2 _ _ r1
          cases h7
          obtain ⟨ys, h8, h9⟩ := c2.at_ n a ds h6 e4
          refine ⟨a, ys, v, rfl, rfl, h8, by rw [← h9.len]; exact size_lt (Nat.le_of_lt hl), ?_⟩
          obtain ⟨g4, c4⟩ := cell_write c2 h6 (DaAll.append h9 (show DaAll X.K φ2.av H2 [p] [v] from ⟨v, [], rfl, h3, rfl⟩))
          exact k φ2 σ _ ((g1.trans g2).trans g4) ((rs1.step g2 c2).step g4 c4)
        · exact k.elim
      · exact k.elim
    · exact k.elim
  · exact k.elim
/-! ### x += e -/
@[simp] def sAug (i : Nat) (g : Int → Int → Int) (f : EF) (ρ : Rho) (μ : Mu) : Option SR := match ρ[i]? with
  | some (some (.d (.int a))) => (match f ρ μ with
    | some (.d (.int b), μ1) => some (.nx (ρ.set i (some (.d (.int (g a b))))) μ1)
    | _ => none)
  | _ => none
theorem sj_aug {op : Operator} {g : Int → Int → Int} {i : Nat} {x : Str} {e : Expr} {f : EF} {pos' : Pos} (ho : PIp X op (ipI g)) (hN : X.N.Nodup) (he : PE X e (tE X.K f)) (hi : X.N[i]? = some x := by rfl) (hx : Loc X.env.scope x := by first | exact Or.inl rfl | exact Or.inr rfl)
    (hf : X.fn x = true ∨ X.env.scope.names.lookup x = some .local := by first | exact .inl rfl | exact .inr rfl) : PS X (.AugAssign (.Name x pos') op e pos) (tS X.K (sAug i g f)) := PS.to (ps_aug hN hi hx he ho hf) fun D σ H ⟨φ, ρ, μ, rs, k⟩ => by
  unfold sAug at k
  split at k
  · rename_i a ea
    split at k
    · rename_i b μ1 e1
      obtain ⟨v, h1, h2⟩ := rs.at_ i _ ea
      refine ⟨v, h1, φ, ρ, μ, _, μ1, rs, e1, fun φ1 v1 H1 g1 c1 r1 => ?_⟩
      exact ⟨a, b, h2, r1, k φ1 _ H1 g1 ((rs.step g1 c1).put rfl)⟩
    · exact k.elim
  · exact k.elim
/-! ### new changed lists -/
theorem new_cell {K : PySem.W.Frag} {φ : Ph} {H : Hp} {μ : Mu} {ps : List PyData} {vs : List V} {Q : VK} (c : Cells K φ H μ) (hs : DaAll K φ.av H ps vs) (k : Post K φ H (μ ++ [ps]) (.loc μ.length) Q) : ∀ p, H p = none → Q (.ref p) (upd H p (.lst vs)) := fun p hp =>
  k (φ.1, φ.2 ++ [p]) _ _ (Grow.cell hp) (c.cell hp hs) ⟨p, by
    show (φ.2 ++ [p])[μ.length]? = some p
    rw [← c.len, List.getElem?_append_right (Nat.le_refl _), Nat.sub_self]; rfl, rfl⟩
@[simp] def eLstC (f : AF) (ρ : Rho) (μ : Mu) : Option (Vw × Mu) := match f ρ μ with
  | some (ws, μ1) => (match allD ws with
    | some ps => if ps.length ≤ 1000000 then some (.loc μ1.length, μ1 ++ [ps]) else none
    | none => none)
  | none => none
theorem ej_lstC {es : List Expr} {f : AF} (h : PA X es (tA X.K f)) : PE X (.List es pos) (tE X.K (eLstC f)) := PE.to (pe_lst h) fun σ H Q ⟨φ, ρ, μ, w, μ', rs, e, k⟩ => by
  unfold eLstC at e
  split at e
  · rename_i ws μ1 e1
    split at e
    · rename_i ps e2
      split at e
      · rename_i hl
        cases e
        refine ⟨φ, ρ, μ, ws, _, rs, e1, fun φ1 vs H1 g1 c1 r1 => ?_⟩
        have hd := allD_da e2 r1
        refine ⟨by rw [← hd.len]; exact size_ok hl, ?_⟩
        exact new_cell c1 hd fun φ2 v2 H2 g2 c2 r2 => k φ2 v2 H2 (g1.trans g2) c2 r2
      · cases e
    · cases e
  · cases e
end
/-! ### what is walked -/
abbrev IF := Rho → Mu → Option (List PyData × Option Nat × Mu)
def Wk (K : PySem.W.Frag) (φ : Ph) (H : Hp) (ds : List PyData) (src : Option Nat) (J : It) : Prop := ∀ (φ' : Ph) (H' : Hp) (μ' : Mu), Grow φ φ' H H' → Cells K φ' H' μ' → (∀ n, src = some n → μ'[n]? = some ds) → ∀ i : Nat,
  (∀ d, ds[i]? = some d → J.go i H' ∧ ∀ x H'', J.yld i H' x H'' → Grow φ' φ' H' H'' ∧ Cells K φ' H'' μ' ∧ Da K φ'.av H'' d x) ∧ (ds.length ≤ i → J.stop i H')
def tI (K : PySem.W.Frag) (fi : IF) : TI := fun σ H R => ∃ φ ρ μ ds src μ', RS K φ σ H ρ μ ∧ fi ρ μ = some (ds, src, μ') ∧ ∀ φ' J H', Grow φ φ' H H' → Cells K φ' H' μ' → Wk K φ' H' ds src J → R J H'
theorem PI.to {X : Cx} {tg it : Expr} {t u : TI} (h : PI X tg it t) (k : ∀ σ H R, u σ H R → t σ H R) : PI X tg it u := ⟨fun pins s σ H R I q => h.run pins s σ H R I (k σ H R q)⟩
@[simp] def iSeq (f : EF) (ρ : Rho) (μ : Mu) : Option (List PyData × Option Nat × Mu) := match f ρ μ with
  | some (.d (.tuple ds), μ1) => some (ds, none, μ1)
  | some (.d (.list ds), μ1) => some (ds, none, μ1)
  | some (.loc n, μ1) => (μ1[n]?).map fun ds => (ds, some n, μ1)
  | some (.kl ns, μ1) => some (ns.map PyData.int, none, μ1)
  | _ => none
theorem wk_tup {K : PySem.W.Frag} {φ : Ph} {H : Hp} {a : Addr} {ds : List PyData} {xs : List V} (h : SqT K H a xs) (hd : DaAll K φ.av H ds xs) : Wk K φ H ds none (Itt K a) := fun φ' H' μ' g c _ i => by
  have h' := g.sqT h
  have hd' := DaAll.step g ds xs hd
  refine ⟨fun d e => ?_, fun hl => ⟨xs, h', by rw [← hd'.len]; exact hl⟩⟩
  obtain ⟨v, e1, e2⟩ := hd'.get e
  refine ⟨⟨xs, v, h', e1⟩, fun x H'' hy => ?_⟩
  obtain ⟨rfl, hy⟩ := hy
  have := hy xs h'
  rw [e1] at this; cases this
  exact ⟨.refl _ _, c, e2⟩
theorem wk_lst {K : PySem.W.Frag} {φ : Ph} {H : Hp} {a : Addr} {ds : List PyData} {src : Option Nat} (h : ∀ φ' H' μ', Grow φ φ' H H' → Cells K φ' H' μ' → (∀ n, src = some n → μ'[n]? = some ds) → ∃ xs, SqL K H' a xs ∧ DaAll K φ'.av H' ds xs) : Wk K φ H ds src (Itl K a) := fun φ' H' μ' g c hs i => by
  obtain ⟨xs, h', hd'⟩ := h φ' H' μ' g c hs
  refine ⟨fun d e => ?_, fun hl => ⟨xs, h', by rw [← hd'.len]; exact hl⟩⟩
  obtain ⟨v, e1, e2⟩ := hd'.get e
  refine ⟨⟨xs, v, h', e1⟩, fun x H'' hy => ?_⟩
  obtain ⟨rfl, hy⟩ := hy
  have := hy xs h'
  rw [e1] at this; cases this
  exact ⟨.refl _ _, c, e2⟩
theorem ij_seq {X : Cx} {tg l : Expr} {f : EF} (h : PE X l (tE X.K f)) : PI X tg l (tI X.K (iSeq f)) := ⟨fun pins s σ H R I q => by
  obtain ⟨φ, ρ, μ, ds, src, μ', rs, e, k⟩ := q
  unfold iSeq at e
  split at e
  · rename_i es μ1 e1
    cases e
    refine (pi_tup h).run pins s σ H R I ⟨φ, ρ, μ, _, _, rs, e1, fun φ1 v H1 g1 c1 r1 => ?_⟩
    obtain ⟨a, xs, e2, h1, h2⟩ := r1
    exact ⟨a, e2, ⟨xs, h1⟩, k φ1 _ H1 g1 c1 (wk_tup h1 h2)⟩
  · rename_i es μ1 e1
    cases e
    refine (pi_list h).run pins s σ H R I ⟨φ, ρ, μ, _, _, rs, e1, fun φ1 v H1 g1 c1 r1 => ?_⟩
    obtain ⟨a, xs, e2, hn, h1, h2⟩ := id r1
    refine ⟨a, e2, ⟨xs, SqL.of h1⟩, k φ1 _ H1 g1 c1 (wk_lst fun φ' H' μ' g c _ => ?_)⟩
    obtain ⟨b, ys, e3, _, h3, h4⟩ := Da.step g (.list ds) v r1
    rw [e2] at e3; cases e3
    exact ⟨ys, SqL.of h3, h4⟩
  · rename_i n μ1 e1
    obtain ⟨es, e2, e3⟩ := Option.map_eq_some_iff.mp e
    cases e3
    refine (pi_list h).run pins s σ H R I ⟨φ, ρ, μ, _, _, rs, e1, fun φ1 v H1 g1 c1 r1 => ?_⟩
    obtain ⟨a, h1, h2⟩ := id r1
    obtain ⟨xs, h3, _⟩ := c1.at_ n a ds h1 e2
    refine ⟨a, h2, ⟨xs, SqL.of h3⟩, k φ1 _ H1 g1 c1 (wk_lst fun φ' H' μ2 g c hs => ?_)⟩
    obtain ⟨b, h4, h5⟩ := RV.step g _ _ r1
    rw [h2] at h5; cases h5
    obtain ⟨ys, h6, h7⟩ := c.at_ n a ds h4 (hs n rfl)
    exact ⟨ys, SqL.of h6, h7⟩
  · rename_i ns μ1 e1
    cases e
    refine (pi_list h).run pins s σ H R I ⟨φ, ρ, μ, _, _, rs, e1, fun φ1 v H1 g1 c1 r1 => ?_⟩
    obtain ⟨a, h1, h2⟩ := r1
    refine ⟨a, h1, ⟨_, h2.sq⟩, k φ1 _ H1 g1 c1 (wk_lst fun φ' H' μ' g c _ => ⟨_, (g.kl h2).sq, DaAll.ints ns⟩)⟩
  · cases e⟩
/-- lo, lo + 1, .. -/
def rngD (lo : Int) (n : Nat) : List PyData := (List.range n).map fun (i : Nat) => PyData.int (lo + (i : Int))
theorem rngD_get {lo : Int} {n i : Nat} {d : PyData} (e : (rngD lo n)[i]? = some d) : i < n ∧ d = .int (lo + (i : Int)) := by
  unfold rngD at e
  rw [List.getElem?_map] at e
  by_cases h : i < n
  · rw [List.getElem?_range h] at e
    cases e
    exact ⟨h, rfl⟩
  · rw [List.getElem?_eq_none (by simpa using h)] at e; cases e
theorem rngD_len {lo : Int} {n : Nat} : (rngD lo n).length = n := by simp [rngD]
theorem wk_rng {K : PySem.W.Frag} {φ : Ph} {H : Hp} {lo : Int} {n : Nat} : Wk K φ H (rngD lo n) none (Itr lo n) := fun φ' H' μ' g c _ i => by
  refine ⟨fun d e => ?_, fun hl => by rw [rngD_len] at hl; exact hl⟩
  obtain ⟨h1, rfl⟩ := rngD_get e
  refine ⟨h1, fun x H'' hy => ?_⟩
  obtain ⟨rfl, rfl⟩ := hy
  exact ⟨.refl _ _, c, rfl⟩
def rgOk (lo hi : Int) : Prop := -(2 ^ 62) ≤ lo ∧ lo < 2 ^ 62 ∧ -(2 ^ 62) ≤ hi ∧ hi < 2 ^ 62
theorem rgOk_of {lo hi : Int} (h1 : -1000000000000 ≤ lo) (h2 : lo ≤ 1000000000000) (h3 : -1000000000000 ≤ hi) (h4 : hi ≤ 1000000000000) : rgOk lo hi := ⟨by omega, by omega, by omega, by omega⟩
theorem rgOk_0 {n : Nat} (h : n ≤ 1000000) : rgOk 0 n := ⟨by omega, by omega, by omega, by omega⟩
open Classical in
@[simp] noncomputable def iRg1 (f : EF) (ρ : Rho) (μ : Mu) : Option (List PyData × Option Nat × Mu) := match f ρ μ with
  | some (.d (.int j), μ1) => if rgOk 0 j then some (rngD 0 j.toNat, none, μ1) else none
  | _ => none
open Classical in
@[simp] noncomputable def iRg2 (f g : EF) (ρ : Rho) (μ : Mu) : Option (List PyData × Option Nat × Mu) := match f ρ μ with
  | some (.d (.int i), μ1) => (match g ρ μ1 with
    | some (.d (.int j), μ2) => if rgOk i j then some (rngD i (j - i).toNat, none, μ2) else none
    | _ => none)
  | _ => none
theorem ij_rg1 {X : Cx} {tg a : Expr} {f : EF} {p pos : Pos} (hm : X.mg "range" = none) (ha : PE X a (tE X.K f)) (hg : Gl X "range" := by rfl) (hs : starEach [a] X.env = [(false, eval a X.env)] := by rfl) : PI X tg (.Call (.Name "range" p) [a] [] pos) (tI X.K (iRg1 f)) :=
  PI.to (pi_range1 hg hm (aj_cons ha aj_nil hs) hs) fun σ H R ⟨φ, ρ, μ, ds, src, μ', rs, e, k⟩ => by
  unfold iRg1 at e
  split at e
  · rename_i j μ1 e1
    split at e
    · rename_i hj
      cases e
      refine ⟨φ, ρ, μ, [.d (.int j)], _, rs, by unfold aCons aNil; rw [e1]; rfl, fun φ1 vs H1 g1 c1 r1 => ?_⟩
      obtain ⟨v, r, ev, h3, h4⟩ := r1
      have h5 : r = [] := h4
      have h6 : v = .int j := h3
      subst ev h5 h6
      exact ⟨j, rfl, hj.2.2.1, hj.2.2.2, k φ1 _ H1 g1 c1 wk_rng⟩
    · cases e
  · cases e
theorem ij_rg2 {X : Cx} {tg a b : Expr} {f g : EF} {p pos : Pos} (hm : X.mg "range" = none) (ha : PE X a (tE X.K f)) (hb : PE X b (tE X.K g)) (hg : Gl X "range" := by rfl) (hs : starEach [a, b] X.env = [(false, eval a X.env), (false, eval b X.env)] := by rfl)
    (hs2 : starEach [b] X.env = [(false, eval b X.env)] := by rfl) : PI X tg (.Call (.Name "range" p) [a, b] [] pos) (tI X.K (iRg2 f g)) :=
  PI.to (pi_range2 hg hm (aj_cons ha (aj_cons hb aj_nil hs2) (by rw [hs, hs2])) hs hs2) fun σ H R ⟨φ, ρ, μ, ds, src, μ', rs, e, k⟩ => by
  unfold iRg2 at e
  split at e
  · rename_i i μ1 e1
    split at e
    · rename_i j μ2 e2
      split at e
      · rename_i hj
        cases e
        refine ⟨φ, ρ, μ, [.d (.int i), .d (.int j)], _, rs, by simp only [aCons, aNil, e1, e2]; rfl, fun φ1 vs H1 g1 c1 r1 => ?_⟩
        obtain ⟨v, r, ev, h3, v2, r2, ev2, h4, h5⟩ := r1
        have h6 : r2 = [] := h5
        have h7 : v = .int i := h3
        have h8 : v2 = .int j := h4
        subst ev ev2 h6 h7 h8
        exact ⟨i, j, rfl, hj, k φ1 _ H1 g1 c1 wk_rng⟩
      · cases e
    · cases e
  · cases e
/-! ### for -/
def srcOk (src : Option Nat) (all : List PyData) (μ : Mu) : Prop := ∀ n, src = some n → μ[n]? = some all
open Classical in
noncomputable def forM (t : TF) (body : SF) (src : Option Nat) (all : List PyData) : List PyData → Rho → Mu → Option SR
  | [], ρ, μ => if srcOk src all μ then some (.nx ρ μ) else none
  | d :: ds, ρ, μ => if srcOk src all μ then (match t (.d d) ρ with
    | none => none
    | some ρ1 => match body ρ1 μ with
      | some (.nx ρ2 μ2) => forM t body src all ds ρ2 μ2
      | some (.ct ρ2 μ2) => forM t body src all ds ρ2 μ2
      | some (.bk ρ2 μ2) => some (.nx ρ2 μ2)
      | some (.rt w μ2) => some (.rt w μ2)
      | none => none)
    else none
@[simp] noncomputable def sFor (fi : IF) (t : TF) (body : SF) (ρ : Rho) (μ : Mu) : Option SR := match fi ρ μ with
  | some (ds, src, μ1) => forM t body src ds ds ρ μ1
  | none => none
theorem sj_for {X : Cx} {tg iter : Expr} {body : List Stmt} {fi : IF} {t : TF} {vs : List Nat} {g : SF} {pos : Pos} (hp : PassesOwn (model X.prog X.w) X.A X.env X.xe) (hc : X.calm = true) (hi : PI X tg iter (tI X.K fi)) (hg : PG X tg (tG X.K t vs)) (hb : PSs X body (tS X.K g))
    (hs : ∀ x, foldedSetIterable iter X.env x = pure x := by intro _; rfl) : PS X (.For tg iter body [] pos) (tS X.K (sFor fi t g)) := PS.to (ps_for hp hc hi hg hb hs) fun D σ H ⟨φ, ρ, μ, rs, k⟩ => by
  unfold sFor at k
  split at k
  · rename_i ds src μ1 e1
    refine ⟨φ, ρ, μ, ds, src, μ1, rs, e1, fun φ1 J H1 g1 c1 wk => ?_⟩
    refine ⟨fun i m σ' H' => m = ds.length - i ∧ ∃ φ2 ρ2 μ2, Grow φ1 φ2 H1 H' ∧ RS X.K φ2 σ' H' ρ2 μ2 ∧ SPost X.K φ2 H' D (forM t g src ds (ds.drop i) ρ2 μ2), ⟨_, rfl, φ1, ρ, μ1, .refl _ _, rs.step g1 c1, SPost.grow g1 k⟩, ?_⟩
    rintro i m σ2 H2 ⟨rfl, φ2, ρ2, μ2, g2, rs2, k2⟩
    cases hdi : ds.drop i with
    | nil =>
      rw [hdi] at k2
      unfold forM at k2
      split at k2
      · rename_i hsrc
        have hl : ds.length ≤ i := List.drop_eq_nil_iff.mp hdi
        exact .inl ⟨(wk φ2 H2 μ2 g2 rs2.c hsrc i).2 hl, k2 φ2 σ2 H2 (.refl _ _) rs2⟩
      · exact k2.elim
    | cons d r =>
      rw [hdi] at k2
      have hil : i < ds.length := by
        by_cases z : i < ds.length
        · exact z
        · rw [List.drop_eq_nil_iff.mpr (by omega)] at hdi; cases hdi
      have hdg : ds[i]? = some d := by
        have := List.getElem?_drop (xs := ds) (i := i) (j := 0)
        rw [hdi] at this
        simpa using this.symm
      have hdr : ds.drop (i + 1) = r := by
        have : (ds.drop i).drop 1 = ds.drop (i + 1) := by rw [List.drop_drop]
        rw [← this, hdi]; rfl
      unfold forM at k2
      split at k2
      · rename_i hsrc
        obtain ⟨go, hy⟩ := (wk φ2 H2 μ2 g2 rs2.c hsrc i).1 d hdg
        refine .inr ⟨go, fun σ' H' => ∃ φ3 ρ3 μ3, Grow φ1 φ3 H1 H' ∧ RS X.K φ3 σ' H' ρ3 μ3 ∧ SPost X.K φ3 H' D (forM t g src ds (ds.drop (i + 1)) ρ3 μ3), fun σ' H' hN => ⟨ds.length - (i + 1), by omega, rfl, hN⟩, fun x H3 hyl => ?_⟩
        obtain ⟨g3, c3, hx⟩ := hy x H3 hyl
        have rs3 := rs2.step g3 c3
        split at k2
        · exact k2.elim
        · rename_i ρ3 e3
          refine ⟨φ2, ρ2, μ2, .d d, ρ3, rs3, hx, e3, fun σ4 rs4 _ => ⟨φ2, ρ3, μ2, rs4, ?_⟩⟩
          rw [hdr]
          have k3 := SPost.grow g3 k2
          cases eb : g ρ3 μ2 with
          | none => rw [eb] at k3; exact k3
          | some z =>
            rw [eb] at k3
            cases z with
            | nx ρ5 μ5 => exact fun φ5 σ5 H5 g5 r5 => ⟨φ5, ρ5, μ5, (g2.trans g3).trans g5, r5, SPost.grow g5 k3⟩
            | ct ρ5 μ5 => exact fun φ5 σ5 H5 g5 r5 => ⟨φ5, ρ5, μ5, (g2.trans g3).trans g5, r5, SPost.grow g5 k3⟩
            | bk ρ5 μ5 => exact k3
            | rt w μ5 => exact k3
      · exact k2.elim
  · exact k.elim
/-! ### while -/
def whileM (t : BF) (body : SF) : Nat → Rho → Mu → Option SR
  | 0, _, _ => none
  | n + 1, ρ, μ => match t ρ μ with
    | none => none
    | some (false, μ1) => some (.nx ρ μ1)
    | some (true, μ1) => match body ρ μ1 with
      | some (.nx ρ2 μ2) => whileM t body n ρ2 μ2
      | some (.ct ρ2 μ2) => whileM t body n ρ2 μ2
      | some (.bk ρ2 μ2) => some (.nx ρ2 μ2)
      | some (.rt w μ2) => some (.rt w μ2)
      | none => none
/-- enough turns -/
def sWhile (t : BF) (body : SF) (n : Nat) : SF := whileM t body n
theorem sj_while {X : Cx} {c : Expr} {body : List Stmt} {t : BF} {g : SF} {pos : Pos} (n : Nat) (hp : PassesOwn (model X.prog X.w) X.A X.env X.xe) (hc : PT X c (tT X.K t)) (hb : PSs X body (tS X.K g)) : PS X (.While c body [] pos) (tS X.K (sWhile t g n)) := PS.to (ps_while hp hc hb) fun D σ H ⟨φ, ρ, μ, rs, k⟩ => by
  refine ⟨fun m σ' H' => ∃ φ2 ρ2 μ2, RS X.K φ2 σ' H' ρ2 μ2 ∧ SPost X.K φ2 H' D (whileM t g m ρ2 μ2), ⟨n, φ, ρ, μ, rs, k⟩, ?_⟩
  rintro m σ2 H2 ⟨φ2, ρ2, μ2, rs2, k2⟩
  cases m with
  | zero => exact k2.elim
  | succ m =>
    unfold whileM at k2
    cases et : t ρ2 μ2 with
    | none => rw [et] at k2; exact k2.elim
    | some r =>
      obtain ⟨b, μ3⟩ := r
      rw [et] at k2
      refine ⟨φ2, ρ2, μ2, b, μ3, rs2, et, fun φ3 H3 g3 c3 => ?_⟩
      have rs3 := rs2.step g3 c3
      have k3 := SPost.grow g3 k2
      cases b with
      | false => exact L2.iteF (k3 φ3 σ2 H3 (.refl _ _) rs3)
      | true =>
        refine L2.iteT ⟨fun σ' H' => ∃ φ4 ρ4 μ4, RS X.K φ4 σ' H' ρ4 μ4 ∧ SPost X.K φ4 H' D (whileM t g m ρ4 μ4), fun σ' H' hN => ⟨m, by omega, hN⟩, φ3, ρ2, μ3, rs3, ?_⟩
        simp only at k3
        cases eb : g ρ2 μ3 with
        | none => rw [eb] at k3; exact k3
        | some z =>
          rw [eb] at k3
          cases z with
          | nx ρ5 μ5 => exact fun φ5 σ5 H5 g5 r5 => ⟨φ5, ρ5, μ5, r5, SPost.grow g5 k3⟩
          | ct ρ5 μ5 => exact fun φ5 σ5 H5 g5 r5 => ⟨φ5, ρ5, μ5, r5, SPost.grow g5 k3⟩
          | bk ρ5 μ5 => exact k3
          | rt w μ5 => exact k3
end VL
end
section
set_option Elab.async false
set_option linter.all false
set_option maxRecDepth 100000
namespace VL
open PySem PySem.Spec PyProof.Rows L2
/-! ### comprehensions -/
def wipeR (ρ : Rho) : List Nat → Rho
  | [] => ρ
  | v :: vs => (wipeR ρ vs).set v none
theorem wipeR_len (ρ : Rho) : ∀ vs : List Nat, (wipeR ρ vs).length = ρ.length
  | [] => rfl
  | v :: vs => by unfold wipeR; rw [List.length_set, wipeR_len ρ vs]
theorem wipeR_some {ρ : Rho} {i : Nat} {x : Vw} : ∀ {vs : List Nat}, (wipeR ρ vs)[i]? = some (some x) → ρ[i]? = some (some x) ∧ i ∉ vs
  | [], h => ⟨h, by simp⟩
  | v :: vs, h => by
    unfold wipeR at h
    by_cases e : i = v
    · subst e
      by_cases hl : i < (wipeR ρ vs).length
      · rw [List.getElem?_set_self hl] at h; cases h
      · rw [List.getElem?_eq_none (by simpa using hl)] at h; cases h
    · rw [List.getElem?_set_ne (Ne.symm e)] at h
      obtain ⟨h1, h2⟩ := wipeR_some h
      exact ⟨h1, by simp [e, h2]⟩
theorem RS.wipe {K : PySem.W.Frag} {φ : Ph} {σ : L2.St} {H : Hp} {ρ : Rho} {μ : Mu} (r : RS K φ σ H ρ μ) (vs : List Nat) : RS K φ (L2.wipe σ vs) H (wipeR ρ vs) μ := by
  refine ⟨r.c, by rw [wipe_length, wipeR_len, r.len], fun i w h => ?_⟩
  obtain ⟨h1, h2⟩ := wipeR_some h
  obtain ⟨v, h3, h4⟩ := r.at_ i w h1
  exact ⟨v, by rw [wipe_out h2]; exact h3, h4⟩
@[simp] def bYes (_ : Rho) (μ : Mu) : Option (Bool × Mu) := some (true, μ)
theorem tsj_nil {X : Cx} : PTs X [] (tT X.K bYes) := ⟨fun pins s σ H Q I h => pts_nil.run pins s σ H Q I (by
  obtain ⟨φ, ρ, μ, b, μ', rs, e, k⟩ := h
  cases e
  exact k φ H (.refl _ _) rs.c)⟩
theorem tsj_one {X : Cx} {c : Expr} {f : BF} (h : PT X c (tT X.K f)) : PTs X [c] (tT X.K f) := pts_one h
open Classical in
noncomputable def lcM (t : TF) (tt : BF) (fe : EF) (src : Option Nat) (all : List PyData) : List PyData → Rho → Mu → Option (List PyData × Mu)
  | [], ρ, μ => if srcOk src all μ then some ([], μ) else none
  | d :: ds, ρ, μ => if srcOk src all μ then (match t (.d d) ρ with
    | none => none
    | some ρ1 => match tt ρ1 μ with
      | some (true, μ1) => (match fe ρ1 μ1 with
        | some (.d p, μ2) => (lcM t tt fe src all ds ρ μ2).map fun r => (p :: r.1, r.2)
        | _ => none)
      | some (false, μ1) => lcM t tt fe src all ds ρ μ1
      | none => none)
    else none
@[simp] noncomputable def eLcC (fi : IF) (t : TF) (tt : BF) (fe : EF) (vs : List Nat) (ρ : Rho) (μ : Mu) : Option (Vw × Mu) := match fi ρ μ with
  | some (ds, src, μ1) => (match lcM t tt fe src ds ds (wipeR ρ vs) μ1 with
    | some (ps, μ2) => if ps.length ≤ 1000000 then some (.loc μ2.length, μ2 ++ [ps]) else none
    | none => none)
  | none => none
@[simp] noncomputable def eLc (fi : IF) (t : TF) (tt : BF) (fe : EF) (vs : List Nat) (ρ : Rho) (μ : Mu) : Option (Vw × Mu) := match fi ρ μ with
  | some (ds, src, μ1) => (match lcM t tt fe src ds ds (wipeR ρ vs) μ1 with
    | some (ps, μ2) => if ps.length ≤ 1000000 then some (.d (.list ps), μ2) else none
    | none => none)
  | none => none
/-- what holds between two turns: D the list that is made -/
structure LcAt (K : PySem.W.Frag) (φ φ2 : Ph) (H H2 : Hp) (D : Addr) (μ2 : Mu) (acc : List PyData) : Prop where
  g : Grow φ φ2 H H2
  c : Cells K φ2 H2 μ2
  mem : D ∈ φ2.1
  nmem : D ∉ φ2.2
  at_ : ∃ xs, H2 D = some (.lst xs) ∧ DaAll K φ2.av H2 acc xs
section
variable {K : PySem.W.Frag} {φ φ2 φ3 : Ph} {H H2 H3 : Hp} {D : Addr} {μ μ2 μ3 : Mu} {acc : List PyData}
theorem LcAt.start (c : Cells K φ H μ) (hD : H D = none) : LcAt K φ (φ.1 ++ [D], φ.2) H (upd H D (.lst [])) D μ [] := by
  have g : Grow φ (φ.1 ++ [D], φ.2) H (upd H D (.lst [])) := by
    obtain ⟨_, p, e, l⟩ := Grow.laid (φ := φ) (o := .lst []) hD
    exact ⟨⟨[D], rfl, fun a ha => by rw [List.mem_singleton.mp ha]; exact hD⟩, p, e, l⟩
  have hn := c.notin hD
  refine ⟨g, ⟨c.nd, c.len, fun n a ds h1 h2 => ?_, fun a ha => ?_⟩, by simp, fun z => hn (List.mem_append_right _ z), ⟨[], upd_same, rfl⟩⟩
  · obtain ⟨xs, h, hs⟩ := c.at_ n a ds h1 h2
    exact ⟨xs, by rw [upd_ne (ne_of_none h hD)]; exact h, DaAll.step g ds xs hs⟩
  · rcases List.mem_append.mp ha with ha | ha
    · intro z; exact c.tr a ha (g.live a z)
    · rw [List.mem_singleton.mp ha, upd_same]; simp
theorem LcAt.step (l : LcAt K φ φ2 H H2 D μ2 acc) (g : Grow φ2 φ3 H2 H3) (c : Cells K φ3 H3 μ3) : LcAt K φ φ3 H H3 D μ3 acc := by
  obtain ⟨xs, h, hs⟩ := l.at_
  refine ⟨l.g.trans g, c, ?_, g.out2 (by rw [h]; simp) l.nmem, ⟨xs, g.ext D _ h fun z => absurd z l.nmem, DaAll.step g _ _ hs⟩⟩
  obtain ⟨χ, e, _⟩ := g.fst
  rw [e]; exact List.mem_append_left _ l.mem
theorem LcAt.add (l : LcAt K φ φ2 H H2 D μ2 acc) (hD : H D = none) {p : PyData} {y : V} (hp : Da K φ2.av H2 p y) : ∃ xs, H2 D = some (.lst xs) ∧ xs.length = acc.length ∧ LcAt K φ φ2 H (upd H2 D (.lst (xs ++ [y]))) D μ2 (acc ++ [p]) := by
  obtain ⟨xs, h, hs⟩ := l.at_
  have ha : D ∈ φ2.av := List.mem_append_left _ l.mem
  refine ⟨xs, h, hs.len.symm, ⟨⟨l.g.fst, l.g.pre, fun a o e hn => ?_, fun a z => ?_⟩, l.c.wr l.mem l.nmem h, l.mem, l.nmem, ⟨_, upd_same, DaAll.append (DaAll.wr ha h _ _ hs) (show DaAll K φ2.av _ [p] [y] from ⟨y, [], rfl, Da.wr ha h _ _ hp, rfl⟩)⟩⟩⟩
  · rw [upd_ne (ne_of_none e hD)]; exact l.g.ext a o e hn
  · by_cases e : a = D
    · rw [e]; exact hD
    · rw [upd_ne e] at z; exact l.g.live a z
theorem LcAt.endC (l : LcAt K φ φ2 H H2 D μ2 acc) (cH : Cells K φ H μ) (hD : H D = none) {Q : VK} (k : Post K φ H (μ2 ++ [acc]) (.loc μ2.length) Q) : Q (.ref D) H2 := by
  obtain ⟨xs, h, hs⟩ := l.at_
  have sub : ∀ a ∈ Ph.av (φ.1, φ2.2 ++ [D]), a ∈ φ2.av := fun a ha => by
    rcases List.mem_append.mp ha with ha | ha
    · obtain ⟨χ, e, _⟩ := l.g.fst
      exact List.mem_append_left _ (by rw [e]; exact List.mem_append_left _ ha)
    · rcases List.mem_append.mp ha with ha | ha
      · exact List.mem_append_right _ ha
      · rw [List.mem_singleton.mp ha]; exact List.mem_append_left _ l.mem
  refine k (φ.1, φ2.2 ++ [D]) _ H2 ⟨⟨[], by simp, by simp⟩, ?_, l.g.ext, l.g.live⟩ ⟨?_, by simp [l.c.len], fun n a es h1 h2 => ?_, fun a ha z => cH.tr a ha (l.g.live a z)⟩ ⟨D, by
    show (φ2.2 ++ [D])[μ2.length]? = some D
    rw [← l.c.len, List.getElem?_append_right (Nat.le_refl _), Nat.sub_self]; rfl, rfl⟩
  · obtain ⟨ψ, e, hψ⟩ := l.g.pre
    exact ⟨ψ ++ [D], by show φ2.2 ++ [D] = _; rw [e, List.append_assoc], fun a ha => (List.mem_append.mp ha).elim (hψ a) fun z => by rw [List.mem_singleton.mp z]; exact hD⟩
  · show (φ2.2 ++ [D]).Nodup
    rw [List.nodup_append]
    exact ⟨l.c.nd, by simp, fun a ha b hb => by rw [List.mem_singleton.mp hb]; intro z; subst z; exact l.nmem ha⟩
  · by_cases hn : n < φ2.2.length
    · have h1' : φ2.2[n]? = some a := by
        have : (φ2.2 ++ [D])[n]? = some a := h1
        rwa [List.getElem?_append_left hn] at this
      rw [List.getElem?_append_left (by rw [← l.c.len]; exact hn)] at h2
      obtain ⟨ys, h3, h4⟩ := l.c.at_ n a es h1' h2
      exact ⟨ys, h3, DaAll.weak sub es ys h4⟩
    · have hl : n < (φ2.2 ++ [D]).length := (List.getElem?_eq_some_iff.mp h1).1
      have e : n = φ2.2.length := by
        rw [List.length_append, List.length_singleton] at hl; omega
      subst e
      have h1' : (φ2.2 ++ [D])[φ2.2.length]? = some a := h1
      rw [List.getElem?_append_right (Nat.le_refl _), Nat.sub_self] at h1'
      rw [List.getElem?_append_right (by rw [l.c.len]; exact Nat.le_refl _), l.c.len, Nat.sub_self] at h2
      cases h1'
      cases h2
      exact ⟨xs, h, DaAll.weak sub _ xs hs⟩
theorem LcAt.endD (l : LcAt K φ φ2 H H2 D μ2 acc) (cH : Cells K φ H μ) (hD : H D = none) {Q : VK} (k : Post K φ H μ2 (.d (.list acc)) Q) : Q (.ref D) H2 := by
  obtain ⟨xs, h, hs⟩ := l.at_
  have sub : ∀ a ∈ Ph.av (φ.1, φ2.2), a ∈ φ2.av := fun a ha => by
    rcases List.mem_append.mp ha with ha | ha
    · obtain ⟨χ, e, _⟩ := l.g.fst
      exact List.mem_append_left _ (by rw [e]; exact List.mem_append_left _ ha)
    · exact List.mem_append_right _ ha
  refine k (φ.1, φ2.2) _ H2 ⟨⟨[], by simp, by simp⟩, l.g.pre, l.g.ext, l.g.live⟩ ⟨l.c.nd, l.c.len, fun n a es h1 h2 => ?_, fun a ha z => cH.tr a ha (l.g.live a z)⟩ ⟨D, xs, rfl, fun hm => ?_, h, DaAll.weak sub _ xs hs⟩
  · obtain ⟨ys, h3, h4⟩ := l.c.at_ n a es h1 h2
    exact ⟨ys, h3, DaAll.weak sub es ys h4⟩
  · rcases List.mem_append.mp hm with hm | hm
    · exact cH.tr D hm hD
    · exact l.nmem hm
end
theorem wipe_same {τ : L2.St} : ∀ {us : List Nat}, (∀ i ∈ us, ∀ z, τ[i]? ≠ some (some z)) → L2.wipe τ us = τ
  | [], _ => rfl
  | u :: us, h => by
    unfold L2.wipe
    rw [wipe_same fun i hi => h i (List.mem_cons_of_mem _ hi)]
    apply List.ext_getElem?
    intro j
    by_cases ej : j = u
    · subst ej
      by_cases hl : j < τ.length
      · rw [List.getElem?_set_self hl]
        cases q : τ[j]? with
        | none => rw [List.getElem?_eq_none_iff] at q; omega
        | some z =>
          cases z with
          | none => rfl
          | some z => exact absurd q (h j (by simp) z)
      · rw [List.getElem?_eq_none (by simp; omega), List.getElem?_eq_none (by omega)]
    · rw [List.getElem?_set_ne (Ne.symm ej)]
/-- the loop of a comprehension -/
theorem lc_loop {K : PySem.W.Frag} {t : TF} {tt : BF} {fe : EF} {src : Option Nat} {ds : List PyData} {ws vs : List Nat} {J : It} {φ : Ph} {H : Hp} {σ : L2.St} {ρ : Rho} {μ μ9 : Mu} {ps : List PyData} {D : Addr} {Qd : Hp → Prop} (rs : RS K φ σ H ρ μ) (wk : Wk K φ H ds src J) (hD : H D = none)
    (hvs : ∀ i ∈ ws, i ∈ vs) (e : lcM t tt fe src ds ds (wipeR ρ vs) μ = some (ps, μ9)) (hlen : ps.length ≤ 1000000) (hd : ∀ φ2 H2, LcAt K φ φ2 H H2 D μ9 ps → Qd H2) :
    ∃ W : Nat → Nat → Hp → Prop, (∃ m, W 0 m (upd H D (.lst []))) ∧ ∀ i m H, W i m H →
      (J.stop i H ∧ Qd H) ∨ (J.go i H ∧ ∃ Nx : Hp → Prop, (∀ H', Nx H' → ∃ m', m' < m ∧ W (i + 1) m' H') ∧ ∀ x H', J.yld i H x H' → tG K t ws x (L2.wipe σ vs) H' fun σ2 H2 => L2.wipe σ2 vs = L2.wipe σ vs ∧ tT K tt σ2 H2 fun b H3 =>
        if b = true then tE K fe σ2 H3 fun y H4 => ∃ acc, H4 D = some (.lst acc) ∧ acc.length < sizeLine ∧ Nx (upd H4 D (.lst (acc ++ [y]))) else Nx H3) := by
  refine ⟨fun i m H' => m = ds.length - i ∧ ∃ φ2 μ2 acc rest, LcAt K φ φ2 H H' D μ2 acc ∧ lcM t tt fe src ds (ds.drop i) (wipeR ρ vs) μ2 = some (rest, μ9) ∧ acc ++ rest = ps, ⟨_, rfl, _, μ, [], ps, LcAt.start rs.c hD, e, rfl⟩, ?_⟩
  rintro i m H2 ⟨rfl, φ2, μ2, acc, rest, l, e2, eps⟩
  cases hdi : ds.drop i with
  | nil =>
    rw [hdi] at e2
    unfold lcM at e2
    split at e2
    · rename_i hsrc
      cases e2
      rw [List.append_nil] at eps
      subst eps
      exact .inl ⟨(wk φ2 H2 _ l.g l.c hsrc i).2 (List.drop_eq_nil_iff.mp hdi), hd φ2 H2 l⟩
    · cases e2
  | cons d r =>
    rw [hdi] at e2
    have hil : i < ds.length := by
      by_cases z : i < ds.length
      · exact z
      · rw [List.drop_eq_nil_iff.mpr (by omega)] at hdi; cases hdi
    have hdg : ds[i]? = some d := by
      have := List.getElem?_drop (xs := ds) (i := i) (j := 0)
      rw [hdi] at this
      simpa using this.symm
    have hdr : ds.drop (i + 1) = r := by
      have : (ds.drop i).drop 1 = ds.drop (i + 1) := by rw [List.drop_drop]
      rw [← this, hdi]; rfl
    unfold lcM at e2
    split at e2
    · rename_i hsrc
      obtain ⟨go, hy⟩ := (wk φ2 H2 μ2 l.g l.c hsrc i).1 d hdg
      refine .inr ⟨go, fun H' => ∃ φ2 μ2 acc rest, LcAt K φ φ2 H H' D μ2 acc ∧ lcM t tt fe src ds (ds.drop (i + 1)) (wipeR ρ vs) μ2 = some (rest, μ9) ∧ acc ++ rest = ps, fun H' hN => ⟨ds.length - (i + 1), by omega, rfl, hN⟩, fun x H3 hyl => ?_⟩
      obtain ⟨g3, c3, hx⟩ := hy x H3 hyl
      have l3 := l.step g3 c3
      split at e2
      · cases e2
      · rename_i ρ3 e3
        have rs3 : RS K φ2 (L2.wipe σ vs) H3 (wipeR ρ vs) μ2 := (rs.wipe vs).step l3.g c3
        refine ⟨φ2, _, μ2, .d d, ρ3, rs3, hx, e3, fun σ4 rs4 w4 => ⟨?_, ?_⟩⟩
        · have := w4 vs hvs
          rw [this]
          exact wipe_same fun i hi z hz => (wipe_some hz).2 hi
        · split at e2
          · rename_i μ4 e4
            refine ⟨φ2, ρ3, μ2, true, μ4, rs4, e4, fun φ5 H5 g5 c5 => L2.iteT ?_⟩
            have l5 := l3.step g5 c5
            split at e2
            · rename_i p μ6 e6
              obtain ⟨⟨rest', μ7⟩, e7, e8⟩ := Option.map_eq_some_iff.mp e2
              cases e8
              refine ⟨φ5, ρ3, μ4, .d p, μ6, rs4.step g5 c5, e6, fun φ8 y H8 g8 c8 r8 => ?_⟩
              have l8 := l5.step g8 c8
              obtain ⟨xs, hx1, hx2, l9⟩ := l8.add hD r8
              refine ⟨xs, hx1, ?_, φ8, μ6, acc ++ [p], rest', l9, by rw [hdr]; exact e7, by rw [List.append_assoc]; exact eps⟩
              have : (acc ++ p :: rest').length ≤ 1000000 := by rw [show acc ++ p :: rest' = ps from eps]; exact hlen
              rw [List.length_append, List.length_cons] at this
              exact size_lt (by omega)
            · cases e2
          · rename_i μ4 e4
            refine ⟨φ2, ρ3, μ2, false, μ4, rs4, e4, fun φ5 H5 g5 c5 => L2.iteF ?_⟩
            exact ⟨φ5, μ4, acc, rest, l3.step g5 c5, by rw [hdr]; exact e2, eps⟩
          · cases e2
    · cases e2
section
variable {K : PySem.W.Frag} {fi : IF} {t : TF} {tt : BF} {fe : EF} {ws vs : List Nat}
theorem tE_lcC (hvs : ∀ i ∈ ws, i ∈ vs) : ∀ σ H Q, tE K (eLcC fi t tt fe vs) σ H Q → tLc (tI K fi) (tG K t ws) (tT K tt) (tE K fe) vs σ H Q := fun σ H Q ⟨φ, ρ, μ, w, μ', rs, e, k⟩ => by
  unfold eLcC at e
  split at e
  · rename_i ds src μ1 e1
    split at e
    · rename_i ps μ2 e2
      split at e
      · rename_i hl
        cases e
        refine ⟨φ, ρ, μ, ds, src, μ1, rs, e1, fun φ1 J H1 g1 c1 wk D hD => ?_⟩
        exact lc_loop (rs.step g1 c1) wk hD hvs e2 hl fun φ2 H2 l => l.endC c1 hD fun φ3 v3 H3 g3 c3 r3 => k φ3 v3 H3 (g1.trans g3) c3 r3
      · cases e
    · cases e
  · cases e
theorem tE_lc (hvs : ∀ i ∈ ws, i ∈ vs) : ∀ σ H Q, tE K (eLc fi t tt fe vs) σ H Q → tLc (tI K fi) (tG K t ws) (tT K tt) (tE K fe) vs σ H Q := fun σ H Q ⟨φ, ρ, μ, w, μ', rs, e, k⟩ => by
  unfold eLc at e
  split at e
  · rename_i ds src μ1 e1
    split at e
    · rename_i ps μ2 e2
      split at e
      · rename_i hl
        cases e
        refine ⟨φ, ρ, μ, ds, src, μ1, rs, e1, fun φ1 J H1 g1 c1 wk D hD => ?_⟩
        exact lc_loop (rs.step g1 c1) wk hD hvs e2 hl fun φ2 H2 l => l.endD c1 hD fun φ3 v3 H3 g3 c3 r3 => k φ3 v3 H3 (g1.trans g3) c3 r3
      · cases e
    · cases e
  · cases e
end
section
variable {X : Cx} {elt tg iter : Expr} {ifs : List Expr} {scope : Scope} {own : List (Str × Nat)} {pos : Pos} {fi : IF} {t : TF} {tt : BF} {fe : EF} {ws : List Nat}
theorem ej_lc (hc : X.calm = true) (hN : X.N.Nodup) (hi : PI X tg iter (tI X.K fi)) (ok : BlkOk X.N X.env.scope scope own) (hvs : ∀ i ∈ ws, i ∈ own.map (·.2))
    (hg : ∀ (s : Shared) (H : Hp) (C : Addr) (cl : List (Str × Addr)) (fp : List Addr), PG (X.blk s H scope (compEnvC scope cl C X.env) fp) tg (tG X.K t ws)) (ht : ∀ (s : Shared) (H : Hp) (C : Addr) (cl : List (Str × Addr)) (fp : List Addr), PTs (X.blk s H scope (compEnvC scope cl C X.env) fp) ifs (tT X.K tt))
    (he : ∀ (s : Shared) (H : Hp) (C : Addr) (cl : List (Str × Addr)) (fp : List Addr), PE (X.blk s H scope (compEnvC scope cl C X.env) fp) elt (tE X.K fe)) (hs : ∀ x, foldedSetIterable iter X.env x = pure x := by intro _; rfl) :
    PE X (.ListComp elt [⟨tg, iter, ifs, 0⟩] scope pos) (tE X.K (eLc fi t tt fe (own.map (·.2)))) := PE.to (pe_lc hc hN hi ok hg ht he hs) (tE_lc hvs)
theorem ej_lcC (hc : X.calm = true) (hN : X.N.Nodup) (hi : PI X tg iter (tI X.K fi)) (ok : BlkOk X.N X.env.scope scope own) (hvs : ∀ i ∈ ws, i ∈ own.map (·.2))
    (hg : ∀ (s : Shared) (H : Hp) (C : Addr) (cl : List (Str × Addr)) (fp : List Addr), PG (X.blk s H scope (compEnvC scope cl C X.env) fp) tg (tG X.K t ws)) (ht : ∀ (s : Shared) (H : Hp) (C : Addr) (cl : List (Str × Addr)) (fp : List Addr), PTs (X.blk s H scope (compEnvC scope cl C X.env) fp) ifs (tT X.K tt))
    (he : ∀ (s : Shared) (H : Hp) (C : Addr) (cl : List (Str × Addr)) (fp : List Addr), PE (X.blk s H scope (compEnvC scope cl C X.env) fp) elt (tE X.K fe)) (hs : ∀ x, foldedSetIterable iter X.env x = pure x := by intro _; rfl) :
    PE X (.ListComp elt [⟨tg, iter, ifs, 0⟩] scope pos) (tE X.K (eLcC fi t tt fe (own.map (·.2)))) := PE.to (pe_lc hc hN hi ok hg ht he hs) (tE_lcC hvs)
/-- name = [..] -/
theorem sj_setLc_ {i : Nat} {y : Str} {py : Pos} {spos : Pos} {vs : List Nat} {f : EF} (hf : ∀ σ H Q, tE X.K f σ H Q → tLc (tI X.K fi) (tG X.K t ws) (tT X.K tt) (tE X.K fe) (own.map (·.2)) σ H Q) (hc : X.calm = true) (hN : X.N.Nodup) (hi : PI X tg iter (tI X.K fi)) (ok : BlkOk X.N X.env.scope scope own)
    (hg : ∀ (s : Shared) (H : Hp) (C : Addr) (cl : List (Str × Addr)) (fp : List Addr), PG (X.blk s H scope (compEnvC scope cl C X.env) fp) tg (tG X.K t ws)) (ht : ∀ (s : Shared) (H : Hp) (C : Addr) (cl : List (Str × Addr)) (fp : List Addr), PTs (X.blk s H scope (compEnvC scope cl C X.env) fp) ifs (tT X.K tt))
    (he : ∀ (s : Shared) (H : Hp) (C : Addr) (cl : List (Str × Addr)) (fp : List Addr), PE (X.blk s H scope (compEnvC scope cl C X.env) fp) elt (tE X.K fe)) (hy : X.N[i]? = some y) (hyl : X.env.scope.names.lookup y = some .local)
    (hsw : swapsWith (.ListComp elt [⟨tg, iter, ifs, 0⟩] scope pos) (some (.Name y py)) spos.line X.env = pure true) (hs : ∀ x, foldedSetIterable iter X.env x = pure x) :
    PS X (.Assign [.Name y py] (.ListComp elt [⟨tg, iter, ifs, 0⟩] scope pos) spos) (tS X.K (sAsg f (tNm i))) := PS.to (ps_setLc hc hN hy hyl hsw hi ok hg ht he hs) fun D σ H q => by
  refine hf σ H _ ?_
  obtain ⟨φ, ρ, μ, w, μ1, rs, e1, k⟩ := tS_asg (vs := [i]) D σ H q
  refine ⟨φ, ρ, μ, w, μ1, rs, e1, fun φ1 v1 H1 g1 c1 r1 => ?_⟩
  obtain ⟨φ2, ρ2, μ2, w2, ρ3, rs2, rv2, e2, k2⟩ := k φ1 v1 H1 g1 c1 r1
  cases e2
  exact k2 _ (rs2.put rv2) fun us hu => wipe_put (hu i (by simp))
theorem sj_setLc {i : Nat} {y : Str} {py : Pos} {spos : Pos} (hc : X.calm = true) (hN : X.N.Nodup) (hi : PI X tg iter (tI X.K fi)) (ok : BlkOk X.N X.env.scope scope own) (hvs : ∀ i ∈ ws, i ∈ own.map (·.2))
    (hg : ∀ (s : Shared) (H : Hp) (C : Addr) (cl : List (Str × Addr)) (fp : List Addr), PG (X.blk s H scope (compEnvC scope cl C X.env) fp) tg (tG X.K t ws)) (ht : ∀ (s : Shared) (H : Hp) (C : Addr) (cl : List (Str × Addr)) (fp : List Addr), PTs (X.blk s H scope (compEnvC scope cl C X.env) fp) ifs (tT X.K tt))
    (he : ∀ (s : Shared) (H : Hp) (C : Addr) (cl : List (Str × Addr)) (fp : List Addr), PE (X.blk s H scope (compEnvC scope cl C X.env) fp) elt (tE X.K fe)) (hy : X.N[i]? = some y := by rfl) (hyl : X.env.scope.names.lookup y = some .local := by rfl)
    (hsw : swapsWith (.ListComp elt [⟨tg, iter, ifs, 0⟩] scope pos) (some (.Name y py)) spos.line X.env = pure true := by exact sw_true rfl rfl rfl (by decide +kernel)) (hs : ∀ x, foldedSetIterable iter X.env x = pure x := by intro _; rfl) :
    PS X (.Assign [.Name y py] (.ListComp elt [⟨tg, iter, ifs, 0⟩] scope pos) spos) (tS X.K (sAsg (eLc fi t tt fe (own.map (·.2))) (tNm i))) := sj_setLc_ (vs := []) (tE_lc hvs) hc hN hi ok hg ht he hy hyl hsw hs
theorem sj_setLcC {i : Nat} {y : Str} {py : Pos} {spos : Pos} (hc : X.calm = true) (hN : X.N.Nodup) (hi : PI X tg iter (tI X.K fi)) (ok : BlkOk X.N X.env.scope scope own) (hvs : ∀ i ∈ ws, i ∈ own.map (·.2))
    (hg : ∀ (s : Shared) (H : Hp) (C : Addr) (cl : List (Str × Addr)) (fp : List Addr), PG (X.blk s H scope (compEnvC scope cl C X.env) fp) tg (tG X.K t ws)) (ht : ∀ (s : Shared) (H : Hp) (C : Addr) (cl : List (Str × Addr)) (fp : List Addr), PTs (X.blk s H scope (compEnvC scope cl C X.env) fp) ifs (tT X.K tt))
    (he : ∀ (s : Shared) (H : Hp) (C : Addr) (cl : List (Str × Addr)) (fp : List Addr), PE (X.blk s H scope (compEnvC scope cl C X.env) fp) elt (tE X.K fe)) (hy : X.N[i]? = some y := by rfl) (hyl : X.env.scope.names.lookup y = some .local := by rfl)
    (hsw : swapsWith (.ListComp elt [⟨tg, iter, ifs, 0⟩] scope pos) (some (.Name y py)) spos.line X.env = pure true := by exact sw_true rfl rfl rfl (by decide +kernel)) (hs : ∀ x, foldedSetIterable iter X.env x = pure x := by intro _; rfl) :
    PS X (.Assign [.Name y py] (.ListComp elt [⟨tg, iter, ifs, 0⟩] scope pos) spos) (tS X.K (sAsg (eLcC fi t tt fe (own.map (·.2))) (tNm i))) := sj_setLc_ (vs := []) (tE_lcC hvs) hc hN hi ok hg ht he hy hyl hsw hs
end
end VL
end
section
set_option Elab.async false
set_option linter.all false
set_option maxRecDepth 100000
namespace VL
open PySem PySem.Spec PyProof.Rows L2
/-! ### defs -/
abbrev FM := Mu → List Vw → Option (Vw × Mu)
def spM (K : PySem.W.Frag) (n : Nat) (m : FM) : Sp := fun vs H Q _ => ∃ φ μ ws w μ', Cells K φ H μ ∧ RVs K φ H ws vs ∧ ws.length = n ∧ m μ ws = some (w, μ') ∧ Post K φ H μ' w Q
@[simp] def frz (fresh : Bool) (n : Nat) (w : Vw) (μ1 : Mu) : Option (Vw × Mu) := match w with
  | .loc k => if k < n then some (.loc k, μ1.take n) else (match μ1[k]? with
    | some ds => if fresh = true then some (.loc n, μ1.take n ++ [ds]) else some (.d (.list ds), μ1.take n)
    | none => none)
  | w => some (w, μ1.take n)
def fnM (fresh : Bool) (n : Nat) (body : SF) (μ : Mu) (ws : List Vw) : Option (Vw × Mu) := match body (ws.map some ++ List.replicate (n - ws.length) none) μ with
  | some (.rt w μ1) => frz fresh μ.length w μ1
  | some (.nx _ μ1) => some (.d .none, μ1.take μ.length)
  | _ => none
section
variable {K : PySem.W.Frag} {φ φ2 : Ph} {H H2 : Hp} {μ μ1 : Mu}
theorem sub_av (g : Grow φ φ2 H H2) : ∀ a ∈ φ.av, a ∈ φ2.av := fun a ha => by
  obtain ⟨⟨χ, e1, _⟩, ⟨ψ, e2, _⟩, _, _⟩ := g
  rcases List.mem_append.mp ha with ha | ha
  · exact List.mem_append_left _ (by rw [e1]; exact List.mem_append_left _ ha)
  · exact List.mem_append_right _ (by rw [e2]; exact List.mem_append_left _ ha)
theorem cut_cells (c0 : Cells K φ H μ) (g : Grow φ φ2 H H2) (c : Cells K φ2 H2 μ1) : Cells K φ H2 (μ1.take μ.length) := by
  obtain ⟨ψ, e2, _⟩ := g.pre
  have hl : φ.2.length ≤ φ2.2.length := by rw [e2, List.length_append]; omega
  refine ⟨c0.nd, by rw [List.length_take, ← c.len, ← c0.len]; omega, fun n a ds h1 h2 => ?_, fun a ha z => c0.tr a ha (g.live a z)⟩
  have hn : n < φ.2.length := (List.getElem?_eq_some_iff.mp h1).1
  have h1' : φ2.2[n]? = some a := by rw [e2, List.getElem?_append_left hn]; exact h1
  have h2' : μ1[n]? = some ds := by
    rw [List.getElem?_take] at h2
    split at h2
    · exact h2
    · cases h2
  obtain ⟨xs, h3, h4⟩ := c.at_ n a ds h1' h2'
  exact ⟨xs, h3, DaAll.weak (sub_av g) ds xs h4⟩
theorem cut_grow (g : Grow φ φ2 H H2) : Grow φ φ H H2 := ⟨⟨[], by simp, by simp⟩, ⟨[], by simp, by simp⟩, g.ext, g.live⟩
theorem frz_post {fresh : Bool} {w w' : Vw} {v : V} {μ' : Mu} {Q : VK} (c0 : Cells K φ H μ) (g : Grow φ φ2 H H2) (c : Cells K φ2 H2 μ1) (r : RV K φ2 H2 w v) (e : frz fresh μ.length w μ1 = some (w', μ')) (k : Post K φ H μ' w' Q) : Q v H2 := by
  have c1 := cut_cells c0 g c
  have g1 := cut_grow g
  obtain ⟨ψ, e2, hψ⟩ := id g.pre
  unfold frz at e
  split at e
  · rename_i n
    split at e
    · rename_i hn
      cases e
      refine k φ v H2 g1 c1 ?_
      obtain ⟨a, h1, h2⟩ := r
      refine ⟨a, ?_, h2⟩
      rw [e2, List.getElem?_append_left (by rw [c0.len]; exact hn)] at h1
      exact h1
    · rename_i hn
      split at e
      · rename_i ds hds
        obtain ⟨a, h1, h2⟩ := r
        obtain ⟨xs, h3, h4⟩ := c.at_ n a ds h1 hds
        have ha : a ∈ φ2.2 := List.mem_of_getElem? h1
        have hna : a ∉ φ.2 := fun z => by
          obtain ⟨m, hm⟩ := List.getElem?_of_mem z
          have hm1 := (List.getElem?_eq_some_iff.mp hm).1
          have hm2 : φ2.2[m]? = some a := by rw [e2, List.getElem?_append_left hm1]; exact hm
          have h5 := List.getElem?_eq_some_iff.mp h1
          have h6 := List.getElem?_eq_some_iff.mp hm2
          have := (List.getElem_inj c.nd).mp (h5.2.trans h6.2.symm)
          rw [c0.len] at hm1
          omega
        have hnew : H a = none := by
          rw [e2] at ha
          rcases List.mem_append.mp ha with z | z
          · exact absurd z hna
          · exact hψ a z
        split at e
        · cases e
          have sub : ∀ b ∈ Ph.av (φ.1, φ.2 ++ [a]), b ∈ φ2.av := fun b hb => by
            rcases List.mem_append.mp hb with hb | hb
            · exact sub_av g b (List.mem_append_left _ hb)
            · rcases List.mem_append.mp hb with hb | hb
              · exact sub_av g b (List.mem_append_right _ hb)
              · rw [List.mem_singleton.mp hb]; exact List.mem_append_right _ ha
          subst h2
          refine k (φ.1, φ.2 ++ [a]) _ H2 ⟨⟨[], by simp, by simp⟩, ⟨[a], rfl, fun b hb => by rw [List.mem_singleton.mp hb]; exact hnew⟩, g.ext, g.live⟩ ⟨?_, ?_, fun m b es q1 q2 => ?_, c1.tr⟩ ⟨a, ?_, rfl⟩
          · show (φ.2 ++ [a]).Nodup
            rw [List.nodup_append]
            exact ⟨c0.nd, by simp, fun x hx y hy => by rw [List.mem_singleton.mp hy]; intro z; subst z; exact hna hx⟩
          · show (φ.2 ++ [a]).length = _
            rw [List.length_append, List.length_append, ← c1.len]; rfl
          · by_cases hm : m < φ.2.length
            · have q1' : φ.2[m]? = some b := by
                have : (φ.2 ++ [a])[m]? = some b := q1
                rwa [List.getElem?_append_left hm] at this
              rw [List.getElem?_append_left (by rw [← c1.len]; exact hm)] at q2
              have hl1 : m < μ1.length := by
                have := (List.getElem?_eq_some_iff.mp q2).1
                rw [List.length_take] at this; omega
              have q2' : μ1[m]? = some es := by
                rw [List.getElem?_take] at q2
                split at q2
                · exact q2
                · cases q2
              obtain ⟨ys, h5, h6⟩ := c.at_ m b es (by rw [e2, List.getElem?_append_left hm]; exact q1') q2'
              exact ⟨ys, h5, DaAll.weak sub es ys h6⟩
            · have hl : m < (φ.2 ++ [a]).length := (List.getElem?_eq_some_iff.mp q1).1
              have em : m = φ.2.length := by
                rw [List.length_append, List.length_singleton] at hl; omega
              subst em
              have q1' : (φ.2 ++ [a])[φ.2.length]? = some b := q1
              rw [List.getElem?_append_right (Nat.le_refl _), Nat.sub_self] at q1'
              rw [List.getElem?_append_right (by rw [c1.len]; exact Nat.le_refl _), c1.len, Nat.sub_self] at q2
              cases q1'
              cases q2
              exact ⟨xs, h3, DaAll.weak sub _ xs h4⟩
          · show (φ.2 ++ [a])[μ.length]? = some a
            rw [← c0.len, List.getElem?_append_right (Nat.le_refl _), Nat.sub_self]; rfl
        · cases e
          refine k φ v H2 g1 c1 ⟨a, xs, h2, fun z => ?_, h3, DaAll.weak (sub_av g) ds xs h4⟩
          rcases List.mem_append.mp z with z | z
          · exact c0.tr a z hnew
          · exact hna z
      · cases e
  · rename_i hne
    cases e
    refine k φ v H2 g1 c1 ?_
    cases w with
    | d p => exact Da.weak (sub_av g) p v r
    | loc n => exact absurd rfl (hne n)
    | kl ns => exact r
    | rg lo hi => exact r
end
theorem rvs_start {K : PySem.W.Frag} {φ : Ph} {H : Hp} {μ : Mu} {ws : List Vw} {vs : List V} {N : List Str} (c : Cells K φ H μ) (r : RVs K φ H ws vs) : RS K φ (L2.start N vs) H (ws.map some ++ List.replicate (N.length - ws.length) none) μ := by
  have hl := r.len
  refine ⟨c, by unfold L2.start; simp [hl], fun i w h => ?_⟩
  by_cases hi : i < ws.length
  · rw [List.getElem?_append_left (by simpa using hi), List.getElem?_map] at h
    obtain ⟨z, h1, h2⟩ := Option.map_eq_some_iff.mp h
    cases h2
    obtain ⟨v, h3, h4⟩ := r.get h1
    exact ⟨v, by unfold L2.start; rw [List.getElem?_append_left (by rw [List.length_map, ← hl]; exact hi), List.getElem?_map, h3]; rfl, h4⟩
  · rw [List.getElem?_append_right (by simpa using hi)] at h
    have := List.mem_of_getElem? h
    rw [List.mem_replicate] at this
    cases this.2
section
variable {P : Program} {w : World} {K : PySem.W.Frag} {mg : Str → Option Value} {base : Heap}
/-- a def keeps the mirror's promise -/
theorem fn_ok (fresh : Bool) {x qual : Str} {params : Arguments} {body : List Stmt} {scope : Scope} {kws : List (Str × V)} {f : Addr} {fd : FuncData} {N ps : List Str} {k : Nat} {g : SF} (F : FunD K x qual params body scope [] kws f fd) (S : FnScope N ps scope)
    (h : ∀ (cdv : Value) (A : Around) (outer : List Env) (s : Shared) (H : Hp) (E : XK), Room k (A.deeper (envOfC qual scope s.heap.objs.size f cdv)) → PSs (cxOf CX0 P w K mg base N qual scope f cdv A outer s H E).nox body (tS K g)) :
    FnOk P w K mg base CX0 (k + 1) f fd ps (spM K ps.length (fnM fresh N.length g)) := by
  refine F.ok S (fun vs H Q E ⟨φ, μ, ws, w, μ', c, r, hl, e, k⟩ => by rw [← r.len, hl]) fun cdv A outer s H vs Q E hr hsp => ⟨_, (h cdv A outer s H E hr).nox, ?_⟩
  obtain ⟨φ, μ, ws, w, μ', c, r, hl, e, k⟩ := hsp
  refine ⟨φ, _, μ, rvs_start c r, ?_⟩
  unfold fnM at e
  split at e
  · rename_i w1 μ1 e1
    rw [e1]
    exact fun φ2 v2 H2 g2 c2 r2 => frz_post c g2 c2 r2 e k
  · rename_i ρ1 μ1 e1
    cases e
    rw [e1]
    exact fun φ2 σ2 H2 g2 r2 => k φ .non H2 (cut_grow g2) (cut_cells c g2 r2.c) rfl
  · cases e
/-- what may be called by the name x -/
structure CalM (P : Program) (w : World) (K : PySem.W.Frag) (mg : Str → Option Value) (base : Heap) (k : Nat) (x : Str) (n : Nat) (m : FM) : Prop where
  ex : ∃ f fd ps, FnOk P w K mg base CX0 k f fd ps (spM K n m) ∧ mg x = some (.ref f) ∧ PySem.W.keepIn K (.ref f) = true ∧ Binds K fd ps []
theorem CalM.mono {j k : Nat} {x : Str} {n : Nat} {m : FM} (c : CalM P w K mg base j x n m) (h : j ≤ k) : CalM P w K mg base k x n m := by
  obtain ⟨f, fd, ps, h1, h2, h3, h4⟩ := c.ex
  exact ⟨f, fd, ps, h1.mono h, h2, h3, h4⟩
theorem cal_ok (fresh : Bool) {x : Str} {params : Arguments} {body : List Stmt} {scope : Scope} {f : Addr} {fd : FuncData} {N ps : List Str} {k : Nat} {g : SF} (hf : mg x = some (.ref f)) (F : FunD K x x params body scope [] [] f fd) (S : FnScope N ps scope)
    (hb : ∀ (kV doc pm : Value) (an : Option Addr) (cdv ct : Value) (us : List Value), us.length = ps.length → bindArgs (PySem.W.fnOf x x params body scope .none kV doc pm an cdv ct) ⟨us, []⟩ = pure (ps.zip us))
    (h : ∀ (cdv : Value) (A : Around) (outer : List Env) (s : Shared) (H : Hp) (E : XK), Room k (A.deeper (envOfC x scope s.heap.objs.size f cdv)) → PSs (cxOf CX0 P w K mg base N x scope f cdv A outer s H E).nox body (tS K g)) :
    CalM P w K mg base (k + 1) x ps.length (fnM fresh N.length g) := ⟨f, fd, ps, fn_ok fresh F S h, hf, F.kp, F.bindsN hb⟩
end
@[simp] def eCall (n : Nat) (m : FM) (fa : AF) (ρ : Rho) (μ : Mu) : Option (Vw × Mu) := match fa ρ μ with
  | some (ws, μ1) => if ws.length = n then m μ1 ws else none
  | none => none
section
variable {X : Cx} {k n : Nat} {x : Str} {m : FM} {e : Expr} {es : List Expr} {fa : AF} {p pos : Pos}
theorem ej_call (c : CalM X.prog X.w X.K X.mg X.base k x n m) (hr : Room k X.A) (ha : PA X (e :: es) (tA X.K fa)) (hg : Gl X x := by rfl) (hdb : (x == ("__debug__" : Str)) = false := by decide)
    (he : starEach (e :: es) X.env = (false, eval e X.env) :: starEach es X.env := by rfl) (hpl : (backTo pos (starEach es X.env)).any (·.1) = false := by rfl) : PE X (.Call (.Name x p) (e :: es) [] pos) (tE X.K (eCall n m fa)) := by
  obtain ⟨f, fd, ps, F, hm, hk, hb⟩ := c.ex
  refine PE.to (pe_call F hr hg hm hk hb .nil pass0 ha hdb he hpl) fun σ H Q ⟨φ, ρ, μ, w, μ', rs, e, k⟩ => ?_
  unfold eCall at e
  split at e
  · rename_i ws μ1 e1
    split at e
    · rename_i hl
      refine ⟨φ, ρ, μ, ws, μ1, rs, e1, fun φ1 vs H1 g1 c1 r1 => ?_⟩
      refine ⟨φ1, μ1, ws, w, μ', c1, by rw [List.append_nil]; exact r1, hl, e, fun φ2 v2 H2 g2 c2 r2 => k φ2 v2 H2 (g1.trans g2) c2 r2⟩
    · cases e
  · cases e
theorem ej_call0 (c : CalM X.prog X.w X.K X.mg X.base k x n m) (hr : Room k X.A) (hg : Gl X x := by rfl) (hdb : (x == ("__debug__" : Str)) = false := by decide) : PE X (.Call (.Name x p) [] [] pos) (tE X.K (eCall n m aNil)) := by
  obtain ⟨f, fd, ps, F, hm, hk, hb⟩ := c.ex
  refine PE.to (pe_call0 F hr hg hm hk hb .nil pass0 hdb) fun σ H Q ⟨φ, ρ, μ, w, μ', rs, e, k⟩ => ?_
  unfold eCall aNil at e
  simp only at e
  split at e
  · rename_i hl
    exact ⟨φ, μ, [], w, μ', rs.c, rfl, hl, e, k⟩
  · cases e
/-! ### built-in functions -/
def OL (K : PySem.W.Frag) (r : List V → Hp → VK → Prop) (o : Mu → List Vw → Option Vw) : Prop := ∀ (φ : Ph) (H : Hp) (μ : Mu) (ws : List Vw) (w : Vw) (vs : List V) (Q : VK), Cells K φ H μ → RVs K φ H ws vs → o μ ws = some w → Post K φ H μ w Q → r vs H Q
@[simp] def eBi (o : Mu → List Vw → Option Vw) (fa : AF) (ρ : Rho) (μ : Mu) : Option (Vw × Mu) := match fa ρ μ with
  | some (ws, μ1) => (o μ1 ws).map fun z => (z, μ1)
  | none => none
theorem tE_bi {K : PySem.W.Frag} {r : List V → Hp → VK → Prop} {o : Mu → List Vw → Option Vw} (h : OL K r o) : ∀ σ H Q, tE K (eBi o fa) σ H Q → tCB r (tA K fa) σ H Q := fun σ H Q ⟨φ, ρ, μ, w, μ', rs, e, k⟩ => by
  unfold eBi at e
  split at e
  · rename_i ws μ1 e1
    obtain ⟨z, ez, e3⟩ := Option.map_eq_some_iff.mp e
    cases e3
    exact ⟨φ, ρ, μ, ws, _, rs, e1, fun φ1 vs H1 g1 c1 r1 => h φ1 H1 _ ws w vs Q c1 r1 ez fun φ2 v2 H2 g2 c2 r2 => k φ2 v2 H2 (g1.trans g2) c2 r2⟩
  · cases e
theorem ej_bi {id : String} {r : List V → Hp → VK → Prop} {o : Mu → List Vw → Option Vw} (hc : CallR X (.builtin id) r) (h : OL X.K r o) (hm : X.mg x = none) (ha : PA X (e :: es) (tA X.K fa)) (hv : bootBuiltins x = some (.builtin id)) (hg : Gl X x := by rfl) (hn : x ≠ "__name__" := by decide) (hdb : (x == ("__debug__" : Str)) = false := by decide)
    (he : starEach (e :: es) X.env = (false, eval e X.env) :: starEach es X.env := by rfl) (hpl : (backTo pos (starEach es X.env)).any (·.1) = false := by rfl) : PE X (.Call (.Name x p) (e :: es) [] pos) (tE X.K (eBi o fa)) := PE.to (pe_callB hc hg hm hv ha hn hdb he hpl) (tE_bi h)
theorem ej_bif {id : String} {r : List V → Hp → VK → Prop} {o : Mu → List Vw → Option Vw} (hc : CallR X (.builtin id) r) (h : OL X.K r o) (hm : X.mg x = some (.builtin id)) (ha : PA X (e :: es) (tA X.K fa)) (hg : Gl X x := by rfl) (hdb : (x == ("__debug__" : Str)) = false := by decide)
    (he : starEach (e :: es) X.env = (false, eval e X.env) :: starEach es X.env := by rfl) (hpl : (backTo pos (starEach es X.env)).any (·.1) = false := by rfl) : PE X (.Call (.Name x p) (e :: es) [] pos) (tE X.K (eBi o fa)) := PE.to (pe_callBfun hc hg hm ha hdb he hpl) (tE_bi h)
theorem ej_ty {T : String} {r : List V → Hp → VK → Prop} {o : Mu → List Vw → Option Vw} (hc : CallR X (.type T) r) (h : OL X.K r o) (hm : X.mg x = none) (ha : PA X (e :: es) (tA X.K fa)) (hv : bootBuiltins x = some (.type T)) (hg : Gl X x := by rfl) (hn : x ≠ "__name__" := by decide) (hdb : (x == ("__debug__" : Str)) = false := by decide)
    (he : starEach (e :: es) X.env = (false, eval e X.env) :: starEach es X.env := by rfl) (hpl : (backTo pos (starEach es X.env)).any (·.1) = false := by rfl) : PE X (.Call (.Name x p) (e :: es) [] pos) (tE X.K (eBi o fa)) := PE.to (pe_callTy hc hg hm hv ha hn hdb he hpl) (tE_bi h)
end
section
variable {K : PySem.W.Frag}
theorem rvs1 {φ : Ph} {H : Hp} {x : Vw} {vs : List V} (r : RVs K φ H [x] vs) : ∃ v, vs = [v] ∧ RV K φ H x v := by
  obtain ⟨v, r', e, h, h2⟩ := r
  have : r' = [] := h2
  subst this
  exact ⟨v, e, h⟩
theorem rvs2 {φ : Ph} {H : Hp} {x y : Vw} {vs : List V} (r : RVs K φ H [x, y] vs) : ∃ u v, vs = [u, v] ∧ RV K φ H x u ∧ RV K φ H y v := by
  obtain ⟨u, r', e, h, v, r2, e2, h2, h3⟩ := r
  have : r2 = [] := h3
  subst this e2
  exact ⟨u, v, e, h, h2⟩
@[simp] def oAbs (_ : Mu) (ws : List Vw) : Option Vw := match ws with
  | [.d (.int i)] => some (.d (.int (if i < 0 then -i else i)))
  | _ => none
theorem oAbs_ok : OL K (fun xs H Q => ∃ i, xs = [.int i] ∧ Q (.int (if i < 0 then -i else i)) H) oAbs := by
  intro φ H μ ws w vs Q c r e k
  unfold oAbs at e
  split at e
  · rename_i i
    cases e
    obtain ⟨v, rfl, h⟩ := rvs1 r
    cases h
    exact ⟨i, rfl, post_here k c rfl⟩
  · cases e
@[simp] def oMax2 (_ : Mu) (ws : List Vw) : Option Vw := match ws with
  | [.d (.int i), .d (.int j)] => some (.d (.int (if j > i then j else i)))
  | _ => none
theorem oMax2_ok : OL K (fun xs H Q => ∃ i j, xs = [.int i, .int j] ∧ Q (.int (if j > i then j else i)) H) oMax2 := by
  intro φ H μ ws w vs Q c r e k
  unfold oMax2 at e
  split at e
  · rename_i i j
    cases e
    obtain ⟨u, v, rfl, h, h2⟩ := rvs2 r
    cases h
    cases h2
    exact ⟨i, j, rfl, post_here k c rfl⟩
  · cases e
@[simp] def oMin2 (_ : Mu) (ws : List Vw) : Option Vw := match ws with
  | [.d (.int i), .d (.int j)] => some (.d (.int (if j < i then j else i)))
  | _ => none
theorem oMin2_ok : OL K (fun xs H Q => ∃ i j, xs = [.int i, .int j] ∧ Q (.int (if j < i then j else i)) H) oMin2 := by
  intro φ H μ ws w vs Q c r e k
  unfold oMin2 at e
  split at e
  · rename_i i j
    cases e
    obtain ⟨u, v, rfl, h, h2⟩ := rvs2 r
    cases h
    cases h2
    exact ⟨i, j, rfl, post_here k c rfl⟩
  · cases e
@[simp] def oInt (_ : Mu) (ws : List Vw) : Option Vw := match ws with
  | [.d (.int i)] => some (.d (.int i))
  | [.d (.bool b)] => some (.d (.int (if b then 1 else 0)))
  | _ => none
theorem oInt_ok : OL K (fun xs H Q => (∃ i, xs = [.int i] ∧ Q (.int i) H) ∨ ∃ k, xs = [.bl k] ∧ Q (.int (if k then 1 else 0)) H) oInt := by
  intro φ H μ ws w vs Q c r e k
  unfold oInt at e
  split at e
  · rename_i i
    cases e
    obtain ⟨v, rfl, h⟩ := rvs1 r
    cases h
    exact .inl ⟨i, rfl, post_here k c rfl⟩
  · rename_i b
    cases e
    obtain ⟨v, rfl, h⟩ := rvs1 r
    cases h
    exact .inr ⟨b, rfl, post_here k c rfl⟩
  · cases e
@[simp] def oLen (μ : Mu) (ws : List Vw) : Option Vw := match ws with
  | [.d (.tuple ds)] => some (.d (.int ds.length))
  | [x] => (toL μ x).map fun ds => .d (.int ds.length)
  | _ => none
theorem oLen_ok : OL K (fun xs H Q => ∃ x n, xs = [x] ∧ LenV K x H n ∧ Q (.int n) H) oLen := by
  intro φ H μ ws w vs Q c r e k
  unfold oLen at e
  split at e
  · rename_i ds
    cases e
    obtain ⟨v, rfl, a, xs, e1, h1, h2⟩ := rvs1 r
    subst e1
    exact ⟨_, ds.length, rfl, .inr ⟨xs, h1, h2.len⟩, post_here k c rfl⟩
  · rename_i x hne
    obtain ⟨ds, e1, e2⟩ := Option.map_eq_some_iff.mp e
    cases e2
    obtain ⟨v, rfl, h⟩ := rvs1 r
    obtain ⟨a, xs, e3, h1, h2⟩ := toL_ok c h e1
    subst e3
    exact ⟨_, ds.length, rfl, .inl ⟨xs, h1, h2.len⟩, post_here k c rfl⟩
  · cases e
@[simp] def oGcd (_ : Mu) (ws : List Vw) : Option Vw := match ws with
  | [.d (.int i), .d (.int j)] => some (.d (.int (Nat.gcd i.natAbs j.natAbs : Nat)))
  | _ => none
theorem oGcd_ok : OL K rGcd oGcd := by
  intro φ H μ ws w vs Q c r e k
  unfold oGcd at e
  split at e
  · rename_i i j
    cases e
    obtain ⟨u, v, rfl, h, h2⟩ := rvs2 r
    cases h
    cases h2
    exact ⟨i, j, rfl, post_here k c rfl⟩
  · cases e
@[simp] def oTupleOf (μ : Mu) (ws : List Vw) : Option Vw := match ws with
  | [.d (.tuple ds)] => some (.d (.tuple ds))
  | [x] => (toL μ x).map fun ds => .d (.tuple ds)
  | _ => none
theorem oTupleOf_ok : OL K (fun xs H Q => ∃ p ys, xs = [.ref p] ∧ ((SqL K H p ys ∧ ∀ l, H l = none → Q (.ref l) (upd H l (.tup ys))) ∨ (SqT K H p ys ∧ Q (.ref p) H))) oTupleOf := by
  intro φ H μ ws w vs Q c r e k
  unfold oTupleOf at e
  split at e
  · rename_i ds
    cases e
    obtain ⟨v, rfl, h⟩ := rvs1 r
    obtain ⟨a, xs, e1, h1, h2⟩ := id h
    subst e1
    exact ⟨a, xs, rfl, .inr ⟨h1, post_here k c h⟩⟩
  · rename_i x hne
    obtain ⟨ds, e1, e2⟩ := Option.map_eq_some_iff.mp e
    cases e2
    obtain ⟨v, rfl, h⟩ := rvs1 r
    obtain ⟨a, xs, e3, h1, h2⟩ := toL_ok c h e1
    subst e3
    exact ⟨a, xs, rfl, .inl ⟨h1, new_tup c h2 k⟩⟩
  · cases e
@[simp] def oListOf (μ : Mu) (ws : List Vw) : Option Vw := match ws with
  | [.d (.tuple ds)] => some (.d (.list ds))
  | [x] => (toL μ x).map fun ds => .d (.list ds)
  | _ => none
theorem oListOf_ok : OL K (fun xs H Q => ∃ p ys, xs = [.ref p] ∧ (SqL K H p ys ∨ SqT K H p ys) ∧ ∀ l, H l = none → Q (.ref l) (upd H l (.lst ys))) oListOf := by
  intro φ H μ ws w vs Q c r e k
  unfold oListOf at e
  split at e
  · rename_i ds
    cases e
    obtain ⟨v, rfl, a, xs, e1, h1, h2⟩ := rvs1 r
    subst e1
    exact ⟨a, xs, rfl, .inr h1, new_lst c h2 k⟩
  · rename_i x hne
    obtain ⟨ds, e1, e2⟩ := Option.map_eq_some_iff.mp e
    cases e2
    obtain ⟨v, rfl, h⟩ := rvs1 r
    obtain ⟨a, xs, e3, h1, h2⟩ := toL_ok c h e1
    subst e3
    exact ⟨a, xs, rfl, .inl h1, new_lst c h2 k⟩
  · cases e
/-- a list of bools -/
@[simp] def toB : List PyData → Option (List Bool)
  | [] => some []
  | .bool b :: r => (toB r).map fun q => b :: q
  | _ :: _ => none
theorem toB_da {A : List Addr} {H : Hp} : ∀ {ds : List PyData} {bs : List Bool} {xs : List V}, toB ds = some bs → DaAll K A H ds xs → xs = bs.map V.bl
  | [], _, _, e, h => by cases e; exact h
  | .bool b :: ds, _, _, e, ⟨v, vs, ev, h, hs⟩ => by
    obtain ⟨q, e1, e2⟩ := Option.map_eq_some_iff.mp e
    cases e2
    have hv : v = .bl b := h
    rw [ev, hv, toB_da e1 hs]; rfl
  | .none :: _, _, _, e, _ => by cases e
  | .int _ :: _, _, _, e, _ => by cases e
  | .str _ :: _, _, _, e, _ => by cases e
  | .list _ :: _, _, _, e, _ => by cases e
  | .tuple _ :: _, _, _, e, _ => by cases e
  | .dict _ :: _, _, _, e, _ => by cases e
@[simp] def oAll (μ : Mu) (ws : List Vw) : Option Vw := match ws with
  | [x] => (toL μ x).bind fun ds => (toB ds).map fun bs => .d (.bool (bs.all id))
  | _ => none
@[simp] def oAny (μ : Mu) (ws : List Vw) : Option Vw := match ws with
  | [x] => (toL μ x).bind fun ds => (toB ds).map fun bs => .d (.bool (bs.any id))
  | _ => none
theorem oAll_ok : OL K (rAll K) oAll := by
  intro φ H μ ws w vs Q c r e k
  unfold oAll at e
  split at e
  · rename_i x
    obtain ⟨ds, e1, e⟩ := Option.bind_eq_some_iff.mp e
    obtain ⟨bs, e2, e3⟩ := Option.map_eq_some_iff.mp e
    cases e3
    obtain ⟨v, rfl, h⟩ := rvs1 r
    obtain ⟨a, xs, e3, h1, h2⟩ := toL_ok c h e1
    subst e3
    have := toB_da e2 h2
    subst this
    exact ⟨a, bs, rfl, h1, post_here k c rfl⟩
  · cases e
theorem oAny_ok : OL K (rAny K) oAny := by
  intro φ H μ ws w vs Q c r e k
  unfold oAny at e
  split at e
  · rename_i x
    obtain ⟨ds, e1, e⟩ := Option.bind_eq_some_iff.mp e
    obtain ⟨bs, e2, e3⟩ := Option.map_eq_some_iff.mp e
    cases e3
    obtain ⟨v, rfl, h⟩ := rvs1 r
    obtain ⟨a, xs, e3, h1, h2⟩ := toL_ok c h e1
    subst e3
    have := toB_da e2 h2
    subst this
    exact ⟨a, bs, rfl, h1, post_here k c rfl⟩
  · cases e
/-! ### isinstance -/
@[simp] def tyN : Vw → String
  | .d .none => "NoneType"
  | .d (.bool _) => "bool"
  | .d (.int _) => "int"
  | .d (.str _) => "str"
  | .d (.list _) => "list"
  | .d (.tuple _) => "tuple"
  | .d (.dict _) => "dict"
  | .loc _ => "list"
  | .kl _ => "list"
  | .rg _ _ => ""
@[simp] def isRg : Vw → Bool
  | .rg _ _ => true
  | _ => false
def tyNs : List String := ["NoneType", "bool", "int", "str", "list", "tuple", "dict"]
def isaB (a T : String) : Bool := decide (a = T) || (decide (a = "bool") && decide (T = "int"))
@[simp] def eIsi (T : String) (f : EF) (ρ : Rho) (μ : Mu) : Option (Vw × Mu) := match f ρ μ with
  | some (w, μ1) => if isRg w = true then none else some (.d (.bool (isaB (tyN w) T)), μ1)
  | none => none
theorem tyN_mem (w : Vw) (hr : ¬ isRg w = true) : tyN w ∈ tyNs := by
  cases w with
  | rg lo hi => exact absurd rfl hr
  | d p => cases p <;> simp [tyN, tyNs]
  | loc n => simp [tyN, tyNs]
  | kl n => simp [tyN, tyNs]
theorem tyN_ok {φ : Ph} {H : Hp} {μ : Mu} {w : Vw} {v : V} (c : Cells K φ H μ) (r : RV K φ H w v) (hr : ¬ isRg w = true) : TyX K H v (.type (tyN w)) := by
  have tup : ∀ {a : Addr} {xs : List V}, SqT K H a xs → TyX K H (.ref a) (.type "tuple") := fun {a xs} h => by
    rcases h with (h | ⟨o, h⟩) | ⟨o, its, n, h1, h2, _⟩
    · exact .base (.tup h)
    · exact .fTuple h
    · exact .kTuple h1 h2
  cases w with
  | rg lo hi => exact absurd rfl hr
  | d p =>
    cases p with
    | none => cases r; exact .base .non
    | bool b => cases r; exact .base (.bl b)
    | int i => cases r; exact .base (.int i)
    | str x => cases r; exact .base (.str x)
    | list ds => obtain ⟨a, xs, e, _, h, _⟩ := r; subst e; exact .base (.lst h)
    | tuple ds => obtain ⟨a, xs, e, h, _⟩ := r; subst e; exact tup h
    | dict kvs => obtain ⟨_, a, e, _, h⟩ := r; subst e; exact .base (.dK h)
  | loc n =>
    obtain ⟨a, h1, e⟩ := r
    subst e
    obtain ⟨xs, h⟩ := c.mem (List.mem_of_getElem? h1)
    exact .base (.lst h)
  | kl ns =>
    obtain ⟨a, e, h⟩ := r
    subst e
    rcases h with ⟨o, h⟩ | ⟨o, its, n, h1, h2, _⟩
    · exact .base (.frz h)
    · exact .kList h1 h2
theorem ej_isi {X : Cx} (T : String) {x : Str} {e : Expr} {f : EF} {p p2 pos : Pos} (hk : ∀ a ∈ tyNs, kitB a T = some (isaB a T)) (hm : X.mg "isinstance" = none) (hm2 : X.mg x = none) (he : PE X e (tE X.K f)) (hv2 : bootBuiltins x = some (.type T)) (hg : Gl X "isinstance" := by rfl) (hg2 : Gl X x := by rfl)
    (hn2 : x ≠ "__name__" := by decide) (hd2 : (x == ("__debug__" : Str)) = false := by decide) (hs1 : starEach [e, .Name x p2] X.env = (false, eval e X.env) :: starEach [.Name x p2] X.env := by rfl) (hs2 : starEach [.Name x p2] X.env = (false, eval (.Name x p2) X.env) :: starEach [] X.env := by rfl)
    (hpl : (backTo pos (starEach [.Name x p2] X.env)).any (·.1) = false := by rfl) : PE X (.Call (.Name "isinstance" p) [e, .Name x p2] [] pos) (tE X.K (eIsi T f)) :=
  PE.to (pe_callB call_isi hg hm (by decide +kernel) (pa_cons he (pa_cons (pe_bltn (v := .ty T) hg2 hm2 hv2 rfl hn2 hd2) pa_nil hs2) hs1) (by decide) (by decide) hs1 hpl) fun σ H Q ⟨φ, ρ, μ, w, μ', rs, e, k⟩ => by
  unfold eIsi at e
  split at e
  · rename_i z μ1 e1
    split at e
    · cases e
    · rename_i hr
      cases e
      exact ⟨φ, ρ, μ, z, _, rs, e1, fun φ1 v H1 g1 c1 r1 => ⟨v, .ty T, _, _, _, rfl, .ty T, tyN_ok c1 r1 hr, kit_ty (hk _ (tyN_mem z hr)), k φ1 _ H1 g1 c1 rfl⟩⟩
  · cases e
end
end VL
end
section
set_option Elab.async false
set_option linter.all false
set_option maxRecDepth 100000
namespace VL
open PySem PySem.Spec PyProof.Rows L2
/-! ### truth -/
@[simp] def tru (μ : Mu) : Vw → Option Bool
  | .d .none => some false
  | .d (.bool b) => some b
  | .d (.int i) => some (i != 0)
  | .d (.tuple ds) => some (!ds.isEmpty)
  | .d (.list ds) => some (!ds.isEmpty)
  | .loc n => (μ[n]?).map fun ds => !ds.isEmpty
  | .kl ns => some (!ns.isEmpty)
  | _ => none
theorem emp_da {K : PySem.W.Frag} {A : List Addr} {H : Hp} {ds : List PyData} {xs : List V} (h : DaAll K A H ds xs) : ds.isEmpty = xs.isEmpty := by
  have := h.len
  cases ds <;> cases xs <;> first | rfl | simp at this
theorem tru_V {K : PySem.W.Frag} {φ : Ph} {H : Hp} {μ : Mu} {w : Vw} {v : V} {b : Bool} (c : Cells K φ H μ) (r : RV K φ H w v) (e : tru μ w = some b) : TruV K v H b := by
  cases w with
  | rg lo hi => cases e
  | d p =>
    cases p with
    | none => cases e; cases r; rfl
    | bool b => cases e; cases r; rfl
    | int i => cases e; cases r; rfl
    | str x => cases e
    | list ds => cases e; obtain ⟨a, xs, e, _, h, hs⟩ := r; subst e; exact .inl ⟨xs, SqL.of h, by rw [emp_da hs]⟩
    | tuple ds => cases e; obtain ⟨a, xs, e, h, hs⟩ := r; subst e; exact .inr (.inl ⟨xs, h, by rw [emp_da hs]⟩)
    | dict kvs => cases e
  | loc n =>
    obtain ⟨ds, e1, e2⟩ := Option.map_eq_some_iff.mp e
    cases e2
    obtain ⟨a, h1, e⟩ := r
    subst e
    obtain ⟨xs, h, hs⟩ := c.at_ n a ds h1 e1
    exact .inl ⟨xs, SqL.of h, by rw [emp_da hs]⟩
  | kl ns =>
    cases e
    obtain ⟨a, e, h⟩ := r
    subst e
    exact .inl ⟨_, h.sq, by cases ns <;> rfl⟩
@[simp] def bTru (f : EF) (ρ : Rho) (μ : Mu) : Option (Bool × Mu) := match f ρ μ with
  | some (w, μ1) => (tru μ1 w).map fun b => (b, μ1)
  | none => none
theorem tj_tru {X : Cx} {a : Expr} {f : EF} (ha : PE X a (tE X.K f)) (he : ∀ whole, isTrue a X.env whole = (do let v ← whole; standAt a.pos; holding [v] (truthy v)) := by intro _; rfl) : PT X a (tT X.K (bTru f)) := PT.to (pt_truth ha he) fun σ H Q ⟨φ, ρ, μ, b, μ', rs, e, k⟩ => by
  unfold bTru at e
  split at e
  · rename_i w μ1 e1
    obtain ⟨c, e2, e3⟩ := Option.map_eq_some_iff.mp e
    cases e3
    exact ⟨φ, ρ, μ, w, _, rs, e1, fun φ1 v H1 g1 c1 r1 => ⟨_, tru_V c1 r1 e2, k φ1 H1 g1 c1⟩⟩
  · cases e
@[simp] def eNotT (f : EF) (ρ : Rho) (μ : Mu) : Option (Vw × Mu) := match f ρ μ with
  | some (w, μ1) => (tru μ1 w).map fun b => (.d (.bool (!b)), μ1)
  | none => none
theorem ej_notT {X : Cx} {a : Expr} {pos : Pos} {f : EF} (ha : PE X a (tE X.K f)) : PE X (.UnaryOp .Not a pos) (tE X.K (eNotT f)) := PE.to (pe_notT ha) fun σ H Q ⟨φ, ρ, μ, w, μ', rs, e, k⟩ => by
  unfold eNotT at e
  split at e
  · rename_i z μ1 e1
    obtain ⟨c, e2, e3⟩ := Option.map_eq_some_iff.mp e
    cases e3
    exact ⟨φ, ρ, μ, z, _, rs, e1, fun φ1 v H1 g1 c1 r1 => ⟨_, tru_V c1 r1 e2, k φ1 _ H1 g1 c1 rfl⟩⟩
  · cases e
/-! ### slices -/
def cutD (xs : List PyData) (lo hi : Option Int) : List PyData := (xs.drop (HT.sIx xs.length 0 lo)).take (HT.sIx xs.length xs.length hi - HT.sIx xs.length 0 lo)
theorem cut_da {K : PySem.W.Frag} {A : List Addr} {H : Hp} {ds : List PyData} {xs : List V} {lo hi : Option Int} (h : DaAll K A H ds xs) : DaAll K A H (cutD ds lo hi) (cutV xs lo hi) := by
  unfold cutD cutV
  rw [h.len]
  exact DaAll.take _ (DaAll.drop _ h)
/-- a part of a slice -/
abbrev OF := Rho → Mu → Option (Option Int × Mu)
@[simp] def oNo (_ : Rho) (μ : Mu) : Option (Option Int × Mu) := some (none, μ)
@[simp] def oYes (f : EF) (ρ : Rho) (μ : Mu) : Option (Option Int × Mu) := match f ρ μ with
  | some (.d (.int i), μ1) => some (some i, μ1)
  | _ => none
def tO (K : PySem.W.Frag) (f : OF) : TO := fun σ H Q => ∃ φ ρ μ o μ', RS K φ σ H ρ μ ∧ f ρ μ = some (o, μ') ∧ ∀ φ' H', Grow φ φ' H H' → Cells K φ' H' μ' → Q o H'
theorem PO.to {X : Cx} {e : Option Expr} {t u : TO} (h : PO X e t) (k : ∀ σ H Q, u σ H Q → t σ H Q) : PO X e u := ⟨fun pins s σ H Q I q => h.run pins s σ H Q I (k σ H Q q)⟩
theorem oj_no {X : Cx} : PO X none (tO X.K oNo) := PO.to po_none fun σ H Q ⟨φ, ρ, μ, o, μ', rs, e, k⟩ => by
  cases e
  exact k φ H (.refl _ _) rs.c
theorem oj_yes {X : Cx} {e : Expr} {f : EF} (h : PE X e (tE X.K f)) : PO X (some e) (tO X.K (oYes f)) := PO.to (po_some h) fun σ H Q ⟨φ, ρ, μ, o, μ', rs, e, k⟩ => by
  unfold oYes at e
  split at e
  · rename_i i μ1 e1
    cases e
    exact ⟨φ, ρ, μ, _, _, rs, e1, fun φ1 v H1 g1 c1 r1 => ⟨i, r1, k φ1 H1 g1 c1⟩⟩
  · cases e
@[simp] def oSl (μ : Mu) (x : Vw) (lo hi : Option Int) : Option Vw := match x with
  | .d (.tuple ds) => some (.d (.tuple (cutD ds lo hi)))
  | x => (toL μ x).map fun ds => .d (.list (cutD ds lo hi))
@[simp] def eSl (f : EF) (g h : OF) (ρ : Rho) (μ : Mu) : Option (Vw × Mu) := match f ρ μ with
  | some (x, μ1) => (match g ρ μ1 with
    | some (lo, μ2) => (match h ρ μ2 with
      | some (hi, μ3) => (oSl μ3 x lo hi).map fun z => (z, μ3)
      | none => none)
    | none => none)
  | none => none
theorem ej_sl {X : Cx} {a : Expr} {lo hi : Option Expr} {p2 pos : Pos} {f : EF} {g h : OF} (ha : PE X a (tE X.K f)) (hl : PO X lo (tO X.K g)) (hh : PO X hi (tO X.K h)) : PE X (.Subscript a (.Slice lo hi none p2) pos) (tE X.K (eSl f g h)) :=
  PE.to (pe_slice (SlR.or sl_list sl_tupA) ha hl hh) fun σ H Q ⟨φ, ρ, μ, w, μ', rs, e, k⟩ => by
  unfold eSl at e
  split at e
  · rename_i x μ1 e1
    refine ⟨φ, ρ, μ, x, μ1, rs, e1, fun φ1 v H1 g1 c1 r1 => ?_⟩
    split at e
    · rename_i l μ2 e2
      have rs1 := rs.step g1 c1
      refine ⟨φ1, ρ, μ1, l, μ2, rs1, e2, fun φ2 H2 g2 c2 => ?_⟩
      split at e
      · rename_i u μ3 e3
        refine ⟨φ2, ρ, μ2, u, μ3, rs1.step g2 c2, e3, fun φ3 H3 g3 c3 => ?_⟩
        obtain ⟨z, e4, e5⟩ := Option.map_eq_some_iff.mp e
        cases e5
        have r3 := RV.step (g2.trans g3) _ _ r1
        have gg := (g1.trans g2).trans g3
        unfold oSl at e4
        split at e4
        · rename_i ds
          cases e4
          obtain ⟨a, xs, q1, h1, h2⟩ := id r3
          subst q1
          refine .inr ⟨a, xs, rfl, h1, fun z => ?_, fun _ => new_tup c3 (cut_da h2) fun φ4 v4 H4 g4 c4 r4 => k φ4 v4 H4 (gg.trans g4) c4 r4⟩
          refine k φ3 _ H3 gg c3 ?_
          have e6 : cutD ds l u = ds := by
            unfold cutD
            rw [h2.len, z.1, z.2, List.drop_zero, Nat.sub_zero, ← h2.len, List.take_length]
          rw [e6]
          exact r3
        · rename_i hne
          obtain ⟨ds, e5, e6⟩ := Option.map_eq_some_iff.mp e4
          cases e6
          obtain ⟨a, xs, q1, h1, h2⟩ := toL_ok c3 r3 e5
          subst q1
          exact .inl ⟨a, xs, rfl, h1, new_lst c3 (cut_da h2) fun φ4 v4 H4 g4 c4 r4 => k φ4 v4 H4 (gg.trans g4) c4 r4⟩
      · cases e
    · cases e
  · cases e
/-! ### reversed, zip, enumerate -/
/-- what stays walkable: a tuple, a list (data, of the number n) -/
def seqT : Vw → Option (List PyData)
  | .d (.tuple ds) => some ds
  | _ => none
@[simp] def seqL (μ : Mu) : Vw → Option (List PyData × Option Nat)
  | .d (.list ds) => some (ds, none)
  | .loc n => (μ[n]?).map fun ds => (ds, some n)
  | .kl ns => some (ns.map PyData.int, none)
  | _ => none
theorem seqL_ok {K : PySem.W.Frag} {φ : Ph} {H : Hp} {μ : Mu} {w : Vw} {v : V} {ds : List PyData} {src : Option Nat} (c : Cells K φ H μ) (r : RV K φ H w v) (e : seqL μ w = some (ds, src)) : ∃ a, v = .ref a ∧ ∀ φ' H' μ', Grow φ φ' H H' → Cells K φ' H' μ' → (∀ n, src = some n → μ'[n]? = some ds) → ∃ xs, SqL K H' a xs ∧ DaAll K φ'.av H' ds xs := by
  cases w with
  | rg lo hi => cases e
  | d p =>
    cases p with
    | list es =>
      cases e
      obtain ⟨a, xs, e1, h⟩ := id r
      refine ⟨a, e1, fun φ' H' μ' g c' _ => ?_⟩
      obtain ⟨b, ys, e2, _, h1, h2⟩ := Da.step g (.list _) v r
      rw [e1] at e2; cases e2
      exact ⟨ys, SqL.of h1, h2⟩
    | _ => cases e
  | loc n =>
    obtain ⟨es, e1, e2⟩ := Option.map_eq_some_iff.mp e
    cases e2
    obtain ⟨a, h1, h2⟩ := id r
    refine ⟨a, h2, fun φ' H' μ' g c' hs => ?_⟩
    obtain ⟨b, h3, h4⟩ := RV.step g _ _ r
    rw [h2] at h4; cases h4
    obtain ⟨xs, h5, h6⟩ := c'.at_ n a ds h3 (hs n rfl)
    exact ⟨xs, SqL.of h5, h6⟩
  | kl ns =>
    cases e
    obtain ⟨a, h1, h2⟩ := r
    exact ⟨a, h1, fun φ' H' μ' g c' _ => ⟨_, (g.kl h2).sq, DaAll.ints ns⟩⟩
@[simp] def iRev (f : EF) (ρ : Rho) (μ : Mu) : Option (List PyData × Option Nat × Mu) := match f ρ μ with
  | some (.d (.tuple ds), μ1) => some (ds.reverse, none, μ1)
  | some (.d (.list ds), μ1) => some (ds.reverse, none, μ1)
  | _ => none
theorem rev_get {ds : List PyData} {i : Nat} {d : PyData} (e : ds.reverse[i]? = some d) : i < ds.length ∧ ds[ds.length - 1 - i]? = some d := by
  have hl : i < ds.length := by
    have := (List.getElem?_eq_some_iff.mp e).1
    simpa using this
  rw [List.getElem?_reverse hl] at e
  exact ⟨hl, e⟩
theorem ij_rev {X : Cx} {tg e : Expr} {f : EF} {p pos : Pos} (hm : X.mg "reversed" = none) (he : PE X e (tE X.K f)) (hg : Gl X "reversed" := by rfl) (hs : starEach [e] X.env = (false, eval e X.env) :: starEach [] X.env := by rfl) : PI X tg (.Call (.Name "reversed" p) [e] [] pos) (tI X.K (iRev f)) :=
  PI.to (RT.pi_revA hg hm he hs) fun σ H R ⟨φ, ρ, μ, ds, src, μ', rs, e, k⟩ => by
  unfold iRev at e
  split at e
  · rename_i es μ1 e1
    cases e
    refine ⟨φ, ρ, μ, _, _, rs, e1, fun φ1 v H1 g1 c1 r1 => ?_⟩
    obtain ⟨a, xs, e2, h1, h2⟩ := r1
    refine ⟨a, xs, e2, .inr ⟨h1, k φ1 _ H1 g1 c1 fun φ' H' μ2 g c _ i => ?_⟩⟩
    have h1' := g.sqT h1
    have h2' := DaAll.step g _ _ h2
    refine ⟨fun d e => ?_, fun hl => by
      show xs.length ≤ i
      rw [List.length_reverse] at hl
      rw [← h2.len]; exact hl⟩
    obtain ⟨hl, e3⟩ := rev_get e
    obtain ⟨z, e4, e5⟩ := h2'.get e3
    rw [h2.len] at e4
    refine ⟨⟨by rw [← h2.len]; exact hl, xs, z, h1', e4⟩, fun x H'' hy => ?_⟩
    obtain ⟨rfl, hy⟩ := hy
    have := hy xs h1'
    rw [e4] at this; cases this
    exact ⟨.refl _ _, c, e5⟩
  · rename_i es μ1 e1
    cases e
    refine ⟨φ, ρ, μ, _, _, rs, e1, fun φ1 v H1 g1 c1 r1 => ?_⟩
    obtain ⟨a, xs, e2, hn, h1, h2⟩ := id r1
    refine ⟨a, xs, e2, .inl ⟨SqL.of h1, k φ1 _ H1 g1 c1 fun φ' H' μ2 g c _ i => ?_⟩⟩
    obtain ⟨b, ys, e3, _, h1', h2'⟩ := Da.step g (.list es) v r1
    rw [e2] at e3; cases e3
    have ll : xs.length = ys.length := by rw [← h2.len, h2'.len]
    refine ⟨fun d e => ?_, fun hl => by
      show xs.length ≤ i
      rw [List.length_reverse] at hl
      rw [← h2.len]; exact hl⟩
    obtain ⟨hl, e3⟩ := rev_get e
    obtain ⟨z, e4, e5⟩ := h2'.get e3
    rw [h2.len] at e4
    refine ⟨⟨by rw [← h2.len]; exact hl, ys, z, SqL.of h1', e4⟩, fun x H'' hy => ?_⟩
    obtain ⟨rfl, hy⟩ := hy
    have := hy ys (SqL.of h1')
    rw [e4] at this; cases this
    exact ⟨.refl _ _, c, e5⟩
  · cases e
def zipD (xs ys : List PyData) : List PyData := (xs.zip ys).map fun p => .tuple [p.1, p.2]
theorem zipD_get {xs ys : List PyData} {i : Nat} {d : PyData} (e : (zipD xs ys)[i]? = some d) : ∃ x y, xs[i]? = some x ∧ ys[i]? = some y ∧ d = .tuple [x, y] := by
  unfold zipD at e
  rw [List.getElem?_map] at e
  obtain ⟨⟨x, y⟩, e1, e2⟩ := Option.map_eq_some_iff.mp e
  obtain ⟨h1, h2⟩ := List.getElem?_zip_eq_some.mp e1
  exact ⟨x, y, h1, h2, e2.symm⟩
theorem zipD_end {xs ys : List PyData} {i : Nat} (e : (zipD xs ys).length ≤ i) : xs.length ≤ i ∨ ys.length ≤ i := by
  unfold zipD at e
  rw [List.length_map, List.length_zip] at e
  omega
/-- zip of two tuples, of two lists of data -/
@[simp] def iZip (f g : EF) (ρ : Rho) (μ : Mu) : Option (List PyData × Option Nat × Mu) := match f ρ μ with
  | some (x, μ1) => (match g ρ μ1 with
    | some (y, μ2) => (match x, y with
      | .d (.tuple xs), .d (.tuple ys) => some (zipD xs ys, none, μ2)
      | .d (.list xs), .d (.list ys) => some (zipD xs ys, none, μ2)
      | _, _ => none)
    | none => none)
  | none => none
theorem pair_da {K : PySem.W.Frag} {φ : Ph} {H : Hp} {T : Addr} {x y : V} {d e : PyData} (hT : H T = none) (h1 : Da K φ.av H d x) (h2 : Da K φ.av H e y) : Da K φ.av (upd H T (.tup [x, y])) (.tuple [d, e]) (.ref T) :=
  ⟨T, [x, y], rfl, SqT.of upd_same, x, [y], rfl, Da.step (Grow.laid hT) _ _ h1, y, [], rfl, Da.step (Grow.laid hT) _ _ h2, rfl⟩
theorem ij_zip {X : Cx} {e e2 : Expr} {elts : List Expr} {kk : Nat} {f g : EF} {p pos tpos : Pos} (hm : X.mg "zip" = none) (he : PE X e (tE X.K f)) (he2 : PE X e2 (tE X.K g)) (hg : Gl X "zip" := by rfl)
    (hs : starEach [e, e2] X.env = (false, eval e X.env) :: starEach [e2] X.env := by rfl) (hs2 : starEach [e2] X.env = (false, eval e2 X.env) :: starEach [] X.env := by rfl) (hpl : (backTo pos (starEach [e2] X.env)).any (·.1) = false := by rfl) : PI X (.Tuple elts kk tpos) (.Call (.Name "zip" p) [e, e2] [] pos) (tI X.K (iZip f g)) :=
  PI.to (RZ.pi_zipA hg hm (aj_cons he (aj_cons he2 aj_nil hs2) hs) hs hpl) fun σ H R ⟨φ, ρ, μ, ds, src, μ', rs, e, k⟩ => by
  unfold iZip at e
  split at e
  · rename_i x μ1 e1
    split at e
    · rename_i y μ2 e2
      have ea : aCons f (aCons g aNil) ρ μ = some ([x, y], μ2) := by simp only [aCons, aNil, e1, e2]; rfl
      split at e
      · rename_i xs ys
        cases e
        refine ⟨φ, ρ, μ, _, _, rs, ea, fun φ1 vs H1 g1 c1 r1 => ?_⟩
        obtain ⟨u, v, rfl, ⟨a, us, q1, h1, s1⟩, ⟨b, vs, q2, h2, s2⟩⟩ := rvs2 r1
        subst q1 q2
        refine ⟨a, b, us, vs, rfl, .inr ⟨h1, h2, k φ1 _ H1 g1 c1 fun φ' H' μ2 g c _ i => ?_⟩⟩
        have h1' := g.sqT h1
        have h2' := g.sqT h2
        have s1' := DaAll.step g _ _ s1
        have s2' := DaAll.step g _ _ s2
        refine ⟨fun d e => ?_, fun hl => ⟨us, vs, h1', h2', by rw [← s1.len, ← s2.len]; exact zipD_end hl⟩⟩
        obtain ⟨d1, d2, e3, e4, rfl⟩ := zipD_get e
        obtain ⟨z1, e5, e6⟩ := s1'.get e3
        obtain ⟨z2, e7, e8⟩ := s2'.get e4
        refine ⟨⟨us, vs, z1, z2, h1', h2', e5, e7⟩, fun x H'' hy => ?_⟩
        obtain ⟨T, x1, x2, rfl, hT, rfl, q1, q2⟩ := hy
        have w1 := q1 us h1'
        have w2 := q2 vs h2'
        rw [e5] at w1; cases w1
        rw [e7] at w2; cases w2
        exact ⟨Grow.laid hT, c.laid hT, pair_da hT e6 e8⟩
      · rename_i xs ys
        cases e
        refine ⟨φ, ρ, μ, _, _, rs, ea, fun φ1 vs H1 g1 c1 r1 => ?_⟩
        obtain ⟨u, v, rfl, q1, q2⟩ := rvs2 r1
        obtain ⟨a, us, q3, _, h1, s1⟩ := id q1
        obtain ⟨b, vs, q4, _, h2, s2⟩ := id q2
        subst q3 q4
        refine ⟨a, b, us, vs, rfl, .inl ⟨SqL.of h1, SqL.of h2, k φ1 _ H1 g1 c1 fun φ' H' μ2 g c _ i => ?_⟩⟩
        obtain ⟨a', us', q3, _, h1', s1'⟩ := Da.step g (.list xs) _ q1
        obtain ⟨b', vs', q4, _, h2', s2'⟩ := Da.step g (.list ys) _ q2
        cases q3
        cases q4
        refine ⟨fun d e => ?_, fun hl => ⟨us', vs', SqL.of h1', SqL.of h2', by rw [← s1'.len, ← s2'.len]; exact zipD_end hl⟩⟩
        obtain ⟨d1, d2, e3, e4, rfl⟩ := zipD_get e
        obtain ⟨z1, e5, e6⟩ := s1'.get e3
        obtain ⟨z2, e7, e8⟩ := s2'.get e4
        refine ⟨⟨us', vs', z1, z2, SqL.of h1', SqL.of h2', e5, e7⟩, fun x H'' hy => ?_⟩
        obtain ⟨T, x1, x2, rfl, hT, rfl, q1, q2⟩ := hy
        have w1 := q1 us' (SqL.of h1')
        have w2 := q2 vs' (SqL.of h2')
        rw [e5] at w1; cases w1
        rw [e7] at w2; cases w2
        exact ⟨Grow.laid hT, c.laid hT, pair_da hT e6 e8⟩
      · cases e
    · cases e
  · cases e
/-! ### texts of ints and bools -/
@[simp] def oStr (_ : Mu) (ws : List Vw) : Option Vw := match ws with
  | [.d (.int i)] => if i.natAbs.log2 < 1920 then some (.d (.str (toString i))) else none
  | _ => none
theorem oStr_ok {K : PySem.W.Frag} : OL K (fun xs H Q => ∃ i, xs = [.int i] ∧ i.natAbs.log2 < 1920 ∧ Q (.str (toString i)) H) oStr := by
  intro φ H μ ws w vs Q c r e k
  unfold oStr at e
  split at e
  · rename_i i
    split at e
    · rename_i hi
      cases e
      obtain ⟨v, rfl, h⟩ := rvs1 r
      cases h
      exact ⟨i, rfl, hi, post_here k c rfl⟩
    · cases e
  · cases e
@[simp] def oRepr (_ : Mu) (ws : List Vw) : Option Vw := match ws with
  | [.d (.bool b)] => some (.d (.str (if b then "True" else "False")))
  | [.d .none] => some (.d (.str "None"))
  | [.d (.int i)] => if i.natAbs.log2 < 1920 then some (.d (.str (toString i))) else none
  | _ => none
def rReprV : List V → Hp → VK → Prop := fun xs H Q => (∃ b, xs = [.bl b] ∧ Q (.str (if b then "True" else "False")) H) ∨ (xs = [.non] ∧ Q (.str "None") H) ∨ (∃ i, xs = [.int i] ∧ i.natAbs.log2 < 1920 ∧ Q (.str (toString i)) H)
theorem call_reprV {X : Cx} : CallR X (.builtin "repr") rReprV := by
  intro pins s σ H xs us Q I r h
  rcases h with ⟨b, rfl, q⟩ | ⟨rfl, q⟩ | ⟨i, rfl, hi, q⟩
  · cases r with
    | cons r rr =>
      cases rr
      cases r
      exact PySem.P.repr_of_bool ⟨.str _, H, I.tok _, ⟨_, rfl⟩, q⟩
  · cases r with
    | cons r rr =>
      cases rr
      cases r
      exact PySem.P.repr_of_none ⟨.str _, H, I.tok _, ⟨_, rfl⟩, q⟩
  · exact SkE.call_repr_int pins s σ H _ us Q I r ⟨i, rfl, hi, q⟩
theorem oRepr_ok {K : PySem.W.Frag} : OL K rReprV oRepr := by
  intro φ H μ ws w vs Q c r e k
  unfold oRepr at e
  split at e
  · rename_i b
    cases e
    obtain ⟨v, rfl, h⟩ := rvs1 r
    cases h
    exact .inl ⟨b, rfl, post_here k c rfl⟩
  · cases e
    obtain ⟨v, rfl, h⟩ := rvs1 r
    cases h
    exact .inr (.inl ⟨rfl, post_here k c rfl⟩)
  · rename_i i
    split at e
    · rename_i hi
      cases e
      obtain ⟨v, rfl, h⟩ := rvs1 r
      cases h
      exact .inr (.inr ⟨i, rfl, hi, post_here k c rfl⟩)
    · cases e
  · cases e
/-! ### short words for the text's makers -/
theorem hu200 {k : Nat} {A : Around} (hr : Room k A) : A.units + 200 < cLine := by have := hr.un; omega
section
variable {X : Cx} {pos : Pos} {K : PySem.W.Frag}
theorem qLt : O2 K (rI0 fun i j => .bl (decide (i < j))) oLt := iiO_ok0 fun _ _ _ _ => rfl
theorem qLe : O2 K (rI0 fun i j => .bl (decide (i ≤ j))) oLe := iiO_ok0 fun _ _ _ _ => rfl
theorem qGt : O2 K (rI0 fun i j => .bl (decide (j < i))) oGt := iiO_ok0 fun _ _ _ _ => rfl
theorem qGe : O2 K (rI0 fun i j => .bl (decide (j ≤ i))) oGe := iiO_ok0 fun _ _ _ _ => rfl
/-- an empty dict -/
theorem ej_dict0 : PE X (.Dict [] [] pos) (tE X.K (eC (.dict []))) := PE.to pe_dnewK fun σ H Q ⟨φ, ρ, μ, w, μ', rs, e, k⟩ => by
  cases e
  exact fun p hp => k φ _ _ (Grow.laid hp) (rs.c.laid hp) ⟨rfl, p, rfl, rs.c.notin hp, upd_same⟩
end
end VL
namespace VL
open PySem PySem.Spec PyProof.Rows L2
/-- more turns than any loop here takes -/
def FUEL : Nat := 2 ^ 20000
@[simp] def sBk (ρ : Rho) (μ : Mu) : Option SR := some (.bk ρ μ)
@[simp] def sCt (ρ : Rho) (μ : Mu) : Option SR := some (.ct ρ μ)
theorem sj_break {X : Cx} {pos : Pos} : PS X (.Break pos) (tS X.K sBk) := PS.to ps_break fun D σ H ⟨φ, ρ, μ, rs, k⟩ => k φ σ H (.refl _ _) rs
theorem sj_cont {X : Cx} {pos : Pos} : PS X (.Continue pos) (tS X.K sCt) := PS.to ps_continue fun D σ H ⟨φ, ρ, μ, rs, k⟩ => k φ σ H (.refl _ _) rs
end VL
namespace VL
open PySem PySem.Spec PyProof.Rows L2
/-- the law's call, behind the top -/
theorem law_start {K : PySem.W.Frag} {m : FM} {H : Hp} {a : Addr} {ns : List Int} {μ' : Mu} (hO : Only H) (hS : SqL K H a (ns.map V.int)) (e : m [] [.kl ns] = some (.d (.bool true), μ')) : spM K 1 m [.ref a] H (fun v _ => v = .bl true) fun _ _ _ => False := by
  refine ⟨([], []), [], [.kl ns], .d (.bool true), μ', ⟨List.nodup_nil, rfl, fun n a ds h _ => by simp at h, fun a h => by cases h⟩, ⟨.ref a, [], rfl, ⟨a, rfl, ?_⟩, rfl⟩, rfl, e, fun φ' v H' g c r => r⟩
  rcases hS with (h | ⟨o, h⟩) | h
  · rcases hO a with z | ⟨o, xs, z⟩
    · rw [z] at h; cases h
    · rw [z] at h; cases h
  · exact .inl ⟨o, h⟩
  · exact .inr h
end VL
end
section
set_option Elab.async false
set_option linter.all false
set_option maxRecDepth 100000
namespace VL
open PySem PySem.Spec PyProof.Rows L2 HT PyProof
/-! ### lists of whole numbers -/
@[simp] def toI : List PyData → Option (List Int)
  | [] => some []
  | .int i :: ds => (toI ds).map (i :: ·)
  | _ :: _ => none
theorem toI_da {K : PySem.W.Frag} {A : List Addr} {H : Hp} : ∀ {ds : List PyData} {ns : List Int} {xs : List V}, toI ds = some ns → DaAll K A H ds xs → xs = ns.map V.int
  | [], _, _, e, h => by cases e; exact h
  | d :: ds, _, _, e, ⟨v, vs, ex, h, hs⟩ => by
    cases d with
    | int i =>
      obtain ⟨ms, e1, e2⟩ := Option.map_eq_some_iff.mp e
      subst e2 ex
      rw [toI_da e1 hs]
      cases h
      rfl
    | _ => cases e
theorem reads_ints {h : Heap} : ∀ {ns : List Int} {its : List Value}, Vals (ns.map V.int) its → ReadsAll h its (ns.map PyData.int) []
  | [], _, r => by cases r; exact .nil
  | n :: ns, _, r => by
    cases r with
    | cons r1 r2 =>
      obtain ⟨t, e⟩ := r1
      subst e
      exact ReadsAll.cons (as := []) (bs := []) (.int n t) (reads_ints r2)
theorem alike_ints (ns : List Int) : PySem.W.AlikeAll (ns.map PyData.int) := by
  constructor
  · intro x hx y hy
    obtain ⟨i, _, rfl⟩ := List.mem_map.mp hx
    obtain ⟨j, _, rfl⟩ := List.mem_map.mp hy
    rfl
  · intro x hx
    obtain ⟨i, _, rfl⟩ := List.mem_map.mp hx
    intro z; cases z
theorem depth_ints : ∀ ns : List Int, PyData.depthAll (ns.map PyData.int) ≤ 1
  | [] => by simp [PyData.depthAll]
  | n :: ns => by
    have := depth_ints ns
    rw [List.map_cons, PyData.depthAll, PyData.depth]
    omega
def rMaxV (K : PySem.W.Frag) : List V → Hp → VK → Prop := fun xs H Q => ∃ a n ns, xs = [V.ref a] ∧ (SqL K H a ((n :: ns).map V.int) ∨ SqT K H a ((n :: ns).map V.int)) ∧ Q (.int (ns.foldl max n)) H
theorem cr_maxV {X : Cx} (hc : X.calm = true) (hu : X.A.units + 200 < cLine) : CallR X (.builtin "max") (rMaxV X.K) := by
  intro pins s σ H vs us Q I r h
  obtain ⟨a, n, ns, rfl, hs, q⟩ := h
  rw [Vals.ref1 r]
  have hd := depth_ints (n :: ns)
  have fin : ∀ {its : List Value} (rv : Vals ((n :: ns).map V.int) its) (i : Nat) v h' tk bs, its.toArray[i]? = some v → Reads h' v (PySem.W.maxD (.int n) (ns.map .int)) bs → (∀ b o, s.heap.get? b = some o → h'.get? b = some o) → EP X pins σ Q v { s with heap := h', toks := tk } := fun rv i v h' tk bs _ hr hk => by
    rw [PySem.W.maxD_ints] at hr
    cases hr
    exact ⟨.int _, H, I.kept hk, ⟨_, rfl⟩, q⟩
  rcases hs with hs | hs
  · obtain ⟨its, rv, hl, _⟩ := I.list hs
    exact PySem.W.max_list_data (as := []) (I.ok.hd hc) hl.isList (x := .int n) (xs := ns.map .int) (reads_ints (ns := n :: ns) (by simpa using rv)) (alike_ints (n :: ns)) (by rw [List.map_cons] at hd; omega) (fin rv)
  · obtain ⟨its, rv, hl, _⟩ := I.tuple hs
    exact PySem.W.max_tuple_data (as := []) (I.ok.hd hc) (show s.heap.IsTuple a its.toArray from hl) (x := .int n) (xs := ns.map .int) (reads_ints (ns := n :: ns) (by simpa using rv)) (alike_ints (n :: ns)) (by rw [List.map_cons] at hd; omega) (fin rv)
def toLT (μ : Mu) (w : Vw) : Option (List PyData) := match w with
  | .d (.tuple ds) => some ds
  | w => toL μ w
@[simp] def oMaxV (μ : Mu) (ws : List Vw) : Option Vw := match ws with
  | [.d (.tuple ds)] => (match toI ds with
    | some (n :: ns) => some (.d (.int (ns.foldl max n)))
    | _ => none)
  | [w] => (match (toL μ w).bind toI with
    | some (n :: ns) => some (.d (.int (ns.foldl max n)))
    | _ => none)
  | _ => none
theorem oMaxV_ok {K : PySem.W.Frag} : OL K (rMaxV K) oMaxV := by
  intro φ H μ ws w vs Q c r e k
  unfold oMaxV at e
  split at e
  · rename_i ds
    obtain ⟨v, rfl, r1⟩ := rvs1 r
    split at e
    · rename_i n ns e1
      cases e
      obtain ⟨a, xs, rfl, h1, h2⟩ := r1
      rw [toI_da e1 h2] at h1
      exact ⟨a, n, ns, rfl, .inr h1, post_here k c rfl⟩
    · cases e
  · rename_i z _
    obtain ⟨v, rfl, r1⟩ := rvs1 r
    split at e
    · rename_i n ns e1
      cases e
      obtain ⟨ds, e2, e3⟩ := Option.bind_eq_some_iff.mp e1
      obtain ⟨a, xs, rfl, h1, h2⟩ := toL_ok c r1 e2
      rw [toI_da e3 h2] at h1
      exact ⟨a, n, ns, rfl, .inl h1, post_here k c rfl⟩
    · cases e
  · cases e
@[simp] def oSum (μ : Mu) (ws : List Vw) : Option Vw := match ws with
  | [w] => ((toL μ w).bind toI).map fun ns => .d (.int ns.sum)
  | _ => none
theorem oSum_ok {K : PySem.W.Frag} : OL K (rSum K) oSum := by
  intro φ H μ ws w vs Q c r e k
  unfold oSum at e
  split at e
  · rename_i z
    obtain ⟨v, rfl, r1⟩ := rvs1 r
    obtain ⟨ns, e1, e4⟩ := Option.map_eq_some_iff.mp e
    cases e4
    obtain ⟨ds, e2, e3⟩ := Option.bind_eq_some_iff.mp e1
    obtain ⟨a, xs, rfl, h1, h2⟩ := toL_ok c r1 e2
    rw [toI_da e3 h2] at h1
    exact ⟨a, ns, rfl, h1, post_here k c rfl⟩
  · cases e
/-! ### a range as a value -/
theorem cr_range1 {X : Cx} : CallR X (.type "range") (fun vs H Q => ∃ i, vs = [V.int i] ∧ ∀ p, H p = none → Q (.ref p) (upd H p (.rng 0 i))) := by
  intro pins s σ H vs us Q I r h
  obtain ⟨i, rfl, q⟩ := h
  cases r with
  | cons r1 r2 =>
    cases r2
    obtain ⟨t, rfl⟩ := r1
    refine call_range_1 ⟨.ref s.heap.objs.size, upd H s.heap.objs.size (.rng 0 i), I.laid (t' := s.toks + 2) (fun b o e => Heap.get?_push_of_some _ e) (Nat.le_refl _) ?_, rfl, q _ (I.hok.fresh (Nat.le_refl _))⟩
    exact ⟨_, _, _, Heap.get?_push_size _ rfl⟩
@[simp] def oRange (_ : Mu) (ws : List Vw) : Option Vw := match ws with
  | [.d (.int i)] => some (.rg 0 i)
  | _ => none
theorem oRange_ok {K : PySem.W.Frag} : OL K (fun vs H Q => ∃ i, vs = [V.int i] ∧ ∀ p, H p = none → Q (.ref p) (upd H p (.rng 0 i))) oRange := by
  intro φ H μ ws w vs Q c r e k
  unfold oRange at e
  split at e
  · rename_i i
    cases e
    obtain ⟨v, rfl, r1⟩ := rvs1 r
    cases r1
    exact ⟨i, rfl, fun p hp => k φ _ _ (Grow.laid hp) (c.laid hp) ⟨p, rfl, upd_same⟩⟩
  · cases e
theorem pi_rgv {X : Cx} {tg l : Expr} {tl : TE} (hl : PE X l tl) : PI X tg l (fun σ H R => tl σ H fun x H1 => ∃ a lo hi, x = .ref a ∧ H1 a = some (.rng lo hi) ∧ (-(2 ^ 62) ≤ lo ∧ lo < 2 ^ 62 ∧ -(2 ^ 62) ≤ hi ∧ hi < 2 ^ 62) ∧ R (Itr lo (hi - lo).toNat) H1) := by
  refine ⟨fun pins s σ H R I h => ?_⟩
  refine thn (hl.run pins s σ H _ I h) fun v s1 ⟨x, H1, I1, r1, q1⟩ => ?_
  obtain ⟨a, lo, hi, e, hq, ⟨h1, h2, h3, h4⟩, q⟩ := q1
  subst e
  cases r1
  obtain ⟨t, u, vv, ho⟩ := I1.hok a _ hq
  refine wpAny_pyIter_range (show IsRange s1.heap a lo hi 1 t u vv from ho) (small_one h1 h2 h3 h4) ?_
  refine ⟨s1.heap.objs.size, [s1.heap.objs.size], _, _, H1, rfl, I1.kept (t' := s1.toks) fun b o e => Heap.get?_push_of_some _ e, turn_range _ lo (hi - lo).toNat, ?_, fun b hb => ?_, q⟩
  · have e1 : lo + ((0 : Nat) : Int) * 1 = lo := by simp
    have e2 : (((hi - lo).toNat : Nat) : Int) - ((0 : Nat) : Int) = Builtin.Range.rangeSize lo hi 1 := by rw [rangeSize_one]; split <;> omega
    show IsRangeIter _ _ (lo + ((0 : Nat) : Int) * 1) ((((hi - lo).toNat : Nat) : Int) - ((0 : Nat) : Int)) 1
    rw [e1, e2]
    exact Heap.get?_push_size _ rfl
  · have e : b = s1.heap.objs.size := by simpa using hb
    subst e
    exact I1.fpOk (Nat.le_refl _) (I1.hok.fresh (Nat.le_refl _))
open Classical in
@[simp] noncomputable def iRgv (f : EF) (ρ : Rho) (μ : Mu) : Option (List PyData × Option Nat × Mu) := match f ρ μ with
  | some (.rg lo hi, μ1) => if rgOk lo hi then some (rngD lo (hi - lo).toNat, none, μ1) else none
  | _ => none
theorem ij_rgv {X : Cx} {tg l : Expr} {f : EF} (h : PE X l (tE X.K f)) : PI X tg l (tI X.K (iRgv f)) := ⟨fun pins s σ H R I q => by
  obtain ⟨φ, ρ, μ, ds, src, μ', rs, e, k⟩ := q
  unfold iRgv at e
  split at e
  · rename_i lo hi μ1 e1
    split at e
    · rename_i hb
      cases e
      refine (pi_rgv h).run pins s σ H R I ⟨φ, ρ, μ, _, _, rs, e1, fun φ1 v H1 g1 c1 r1 => ?_⟩
      obtain ⟨a, e2, h1⟩ := r1
      exact ⟨a, lo, hi, e2, h1, hb, k φ1 _ H1 g1 c1 wk_rng⟩
    · cases e
  · cases e⟩
/-! ### xs[::-1] -/
theorem adjust_rev (n : Nat) : Builtin.Slice.sliceAdjust none none (-1) (n : Int) = ((n : Int) - 1, -1) := rfl
theorem places_rev (n : Nat) : Builtin.Slice.slicePlaces ((n : Int) - 1) (-1) (-1) = n := by
  unfold Builtin.Slice.slicePlaces
  rw [if_neg (by decide)]
  by_cases h : n = 0
  · subst h; rfl
  · rw [if_pos (by omega)]
    have : ((n : Int) - 1 - -1 - 1) / (- -1) + 1 = n := by
      have : (- -1 : Int) = 1 := rfl
      rw [this, Int.ediv_one]; omega
    rw [this]; rfl
theorem pick_rev (xs : Array Value) : ((List.range xs.size).filterMap fun (m : Nat) => xs[((xs.size : Int) - 1 + (m : Int) * -1).toNat]?).toArray = xs.toList.reverse.toArray := by
  have e : ∀ n, n ≤ xs.size → (List.range n).filterMap (fun (m : Nat) => xs[((xs.size : Int) - 1 + (m : Int) * -1).toNat]?) = (xs.toList.reverse).take n := by
    intro n hn
    induction n with
    | zero => rfl
    | succ n ih =>
      have e1 : ((xs.size : Int) - 1 + (n : Int) * -1).toNat = xs.size - 1 - n := by omega
      have e2 : xs.toList.reverse[n]? = xs[xs.size - 1 - n]? := by
        rw [List.getElem?_reverse (by rw [Array.length_toList]; omega), Array.length_toList, Array.getElem?_toList]
      have e3 : n < xs.toList.reverse.length := by rw [List.length_reverse, Array.length_toList]; omega
      rw [List.range_succ, List.filterMap_append, ih (by omega), List.take_succ, e2]
      simp only [List.filterMap_cons, List.filterMap_nil, e1]
      cases xs[xs.size - 1 - n]? <;> rfl
  have := e xs.size (Nat.le_refl _)
  rw [this, List.take_of_length_le (by rw [List.length_reverse, Array.length_toList]; exact Nat.le_refl _)]
section
variable {prog : Program} {w : World} {A : Around} {E : Value → Shared → Prop} {s : Shared}
theorem sliceApplied_rev {sl : Addr} {vl vu vs : Value} {n : Nat} {Q : Int × Int × Nat → Shared → Prop} (hs : s.heap.IsSliceOf sl vl vu vs) (pl : IsPart vl none) (pu : IsPart vu none) (ps : IsPart vs (some (-1)))
    (h : Q ((n : Int) - 1, -1, n) s) : wpAny (model prog w) A (Builtin.Slice.sliceApplied (.ref sl) (pure (n : Int))) Q E s := by
  obtain ⟨os, hos, hcs, hds⟩ := id hs
  unfold Builtin.Slice.sliceApplied Builtin.Slice.sliceFields
  refine wpAny_bind (wpAny_bind (wpAny_field hos hds (x := vl) rfl (wpAny_bind (wpAny_field hos hds (x := vu) rfl (wpAny_bind (wpAny_field hos hds (x := vs) rfl (wpAny_pure ?_)))))))
  refine wpAny_bind (slicePart_ ps ?_)
  show wpAny _ _ (if ((-1 : Int) == 0) = true then _ else _) _ _ s
  rw [if_neg (by decide)]
  refine wpAny_bind (slicePart_ pl (wpAny_bind (slicePart_ pu (wpAny_bind (wpAny_pure ?_)))))
  show wpAny _ _ (match Builtin.Slice.sliceAdjust none none (-1) (n : Int) with | (lo, hi) => pure (lo, (-1 : Int), Builtin.Slice.slicePlaces lo hi (-1))) _ _ s
  rw [adjust_rev n]
  show wpAny _ _ (pure ((n : Int) - 1, (-1 : Int), Builtin.Slice.slicePlaces ((n : Int) - 1) (-1) (-1))) _ _ s
  rw [places_rev]
  exact wpAny_pure h
theorem tup_rev {t sl : Addr} {items : Array Value} {vl vu vs : Value} {Q : Value → Shared → Prop} (ht : IsTup s.heap t items) (hs : s.heap.IsSliceOf sl vl vu vs) (pl : IsPart vl none) (pu : IsPart vu none) (ps : IsPart vs (some (-1)))
    (h : Q (.ref s.heap.objs.size) { s with heap := s.heap.push { cls := .type "tuple", data := .seq items.toList.reverse.toArray } })
    (hsz : items.size ≤ sizeLine) : wpAny (model prog w) A (getItem (.ref t) (.ref sl)) Q E s := by
  have htake : sizeOk (.seq items.toList.reverse.toArray) := by
    show items.toList.reverse.toArray.size ≤ sizeLine
    rw [List.size_toArray, List.length_reverse, Array.length_toList]
    exact hsz
  obtain ⟨os, hos, hcs, hds⟩ := id hs
  have hTs : s.TypeIs (.ref sl) "slice" := ⟨os, hos, hcs⟩
  unfold getItem
  try with_reducible refine wpAny_holding ?_
  first | refine wpAny_bind (wpAny_pure ?_) | skip
  refine wpAny_bind (wpAny_sequenceKey ht.typeIs (by decide) ?_)
  refine wpAny_bind (wpAny_callSpecial?_slot (name := Str.ofString "__getitem__") ht.typeIs PyProof.Rows.slot_tuple_getitem
    (wpAny_call_entry PyProof.Rows.slot_tuple_getitem ht.typeIs entry_tuple_getitem ?_ (args_tuple_getitem _ _)))
  show wpAny _ _ (Builtin.Tuple.tupleItemsOf (.ref t) >>= _) _ _ s
  refine wpAny_bind (tupleItemsOf_ ht ?_)
  refine wpAny_bind (wpAny_typeOf hTs ?_)
  rw [if_pos (by decide)]
  refine wpAny_bind (sliceApplied_rev hs pl pu ps ?_)
  have hno : ¬ ((((items.size : Int) - 1) == 0 && (-1 : Int) == 1 && items.size == items.size) = true) := by simp
  show wpAny _ _ (if (((items.size : Int) - 1) == 0 && (-1 : Int) == 1 && items.size == items.size) = true then _ else _) _ _ s
  rw [if_neg hno, pick_rev]
  first
    | exact wpAny_bind (m := Builtin.Tuple.tupleExact _) (wpAny_newObj_type (wpAny_pure ⟨_, rfl, wpAny_pure h⟩) htake)
    | exact wpAny_bind (m := Builtin.Tuple.tupleExact _) (wpAny_newObj_type (wpAny_bind (wpAny_pure (wpAny_pure ⟨_, rfl, wpAny_pure h⟩))) htake)
    | exact wpAny_bind (wpAny_bind (m := Builtin.Tuple.tupleExact _) (wpAny_newObj_type (wpAny_pure (wpAny_pure ⟨_, rfl, wpAny_pure h⟩)) htake))
    | exact wpAny_bind (wpAny_bind (m := Builtin.Tuple.tupleExact _) (wpAny_newObj_type (wpAny_pure ⟨_, rfl, wpAny_pure h⟩) htake))
end
def tRevV (K : PySem.W.Frag) (te : TE) : TE := fun σ H Q => te σ H fun x H1 => ∃ a xs, x = .ref a ∧ ((SqL K H1 a xs ∧ ∀ p, H1 p = none → Q (.ref p) (upd H1 p (.lst xs.reverse))) ∨ (SqT K H1 a xs ∧ ∀ p, H1 p = none → Q (.ref p) (upd H1 p (.tup xs.reverse))))
theorem pe_revV {X : Cx} {e : Expr} {te : TE} {k : Nat} {p1 p2 p3 pos : Pos} (he : PE X e te) : PE X (.Subscript e (.Slice none none (some (.UnaryOp .USub (.Constant (.int 1) k p1) p2)) p3) pos) (tRevV X.K te) := by
  refine ⟨fun pins s σ H Q I h => ?_⟩
  refine Subscript_ (thn (he.run pins s σ H _ I h) fun v s1 ⟨x, H1, I1, r1, q1⟩ => ?_)
  obtain ⟨a, xs, ex, q⟩ := q1
  subst ex
  cases r1
  have hst : PO X (some (.UnaryOp .USub (.Constant (.int 1) k p1) p2)) (tPart (tUn (rU fun i => .int (-i)) (tC (.int 1)))) := po_some (pe_un un_neg pe_int)
  refine wpAny_Slice (thn (po_none.run pins s1 σ H1 (fun o H2 => o = none ∧ H2 = H1) I1 ⟨rfl, rfl⟩) fun vl s2 ⟨l, H2, I2, pl, el, e2⟩ => ?_)
  subst el e2
  refine thn (po_none.run pins s2 σ H2 (fun o H3 => o = none ∧ H3 = H2) I2 ⟨rfl, rfl⟩) fun vu s3 ⟨u, H3, I3, pu, eu, e3⟩ => ?_
  subst eu e3
  refine thn (hst.run pins s3 σ H3 (fun o H4 => o = some (-1) ∧ H4 = H3) I3 ⟨1, rfl, -1, rfl, rfl, rfl⟩) fun vs s4 ⟨o, H4, I4, ps, eo, e4⟩ => ?_
  subst eo e4
  have I5 : L2.Inv X pins σ H4 { s4 with heap := s4.heap.push { cls := .type "slice", data := .fields #[vl, vu, vs] } } := I4.kept (t' := s4.toks) fun b ob q => Heap.get?_push_of_some _ q
  show wpAny (model X.prog X.w) X.A (subscriptTail e (.Slice none none (some (.UnaryOp .USub (.Constant (.int 1) k p1) p2)) p3) (.ref a) (.ref s4.heap.objs.size)) (EP X pins σ Q) X.xe { s4 with heap := s4.heap.push { cls := .type "slice", data := .fields #[vl, vu, vs] } }
  rcases q with ⟨hx, q⟩ | ⟨hx, q⟩
  · obtain ⟨its, r, ht, hz⟩ := I5.list hx
    have hlen := r.length
    refine tail_any (ops := [.ref a, .ref s4.heap.objs.size]) ht.isList.typeIs (PySem.slot_list_getitem.lookup) ?_ (by with_unfolding_all rfl)
    refine wpAny_getItem_list_slice ht.isList (Heap.IsSliceOf.new _ vl vu vs) pl pu ps (by decide) ?_ (by rw [List.size_toArray]; omega)
    rw [PySem.W.krv_pick]
    refine ⟨.ref _, _, I5.laid (t' := s4.toks) (o := .lst xs.reverse) (fun b ob q => Heap.get?_push_of_some _ q) (Nat.le_refl _) ?_, rfl, q _ (I5.hok.fresh (Nat.le_refl _))⟩
    exact ⟨by rw [List.length_reverse]; exact hz, _, 0, r.reverse, Heap.get?_push_size _ rfl⟩
  · obtain ⟨its, r, ht, hz⟩ := I5.tuple hx
    have hlen := r.length
    refine tail_any (ops := [.ref a, .ref s4.heap.objs.size]) ht.typeIs (PyProof.Rows.slot_tuple_getitem.lookup) ?_ (by with_unfolding_all rfl)
    refine tup_rev ht (Heap.IsSliceOf.new _ vl vu vs) pl pu ps ?_ (by rw [List.size_toArray]; omega)
    refine ⟨.ref _, _, I5.laid (t' := s4.toks) (o := .tup xs.reverse) (fun b ob q => Heap.get?_push_of_some _ q) (Nat.le_refl _) ?_, rfl, q _ (I5.hok.fresh (Nat.le_refl _))⟩
    exact ⟨by rw [List.length_reverse]; exact hz, _, r.reverse, IsTup.new _ _⟩
@[simp] def oRevS (μ : Mu) (w : Vw) : Option Vw := match w with
  | .d (.tuple ds) => some (.d (.tuple ds.reverse))
  | w => (toL μ w).map fun ds => .d (.list ds.reverse)
theorem DaAll.reverse {K : PySem.W.Frag} {A : List Addr} {H : Hp} : ∀ {ds : List PyData} {xs : List V}, DaAll K A H ds xs → DaAll K A H ds.reverse xs.reverse
  | [], _, h => by rw [show _ = _ from h]; rfl
  | d :: ds, _, ⟨v, vs, e, h, hs⟩ => by
    rw [e, List.reverse_cons, List.reverse_cons]
    exact DaAll.append (DaAll.reverse hs) ⟨v, [], rfl, h, rfl⟩
theorem ej_rev {X : Cx} {e : Expr} {f : EF} {k : Nat} {p1 p2 p3 pos : Pos} (he : PE X e (tE X.K f)) : PE X (.Subscript e (.Slice none none (some (.UnaryOp .USub (.Constant (.int 1) k p1) p2)) p3) pos) (tE X.K (eB1 oRevS f)) := PE.to (pe_revV he) fun σ H Q ⟨φ, ρ, μ, w, μ', rs, e, k⟩ => by
  unfold eB1 at e
  split at e
  · rename_i z μ1 e1
    obtain ⟨u, e2, e3⟩ := Option.map_eq_some_iff.mp e
    cases e3
    refine ⟨φ, ρ, μ, z, _, rs, e1, fun φ1 v H1 g1 c1 r1 => ?_⟩
    unfold oRevS at e2
    split at e2
    · cases e2
      obtain ⟨a, xs, rfl, h1, h2⟩ := r1
      exact ⟨a, xs, rfl, .inr ⟨h1, new_tup c1 (DaAll.reverse h2) fun φ4 v4 H4 g4 c4 r4 => k φ4 v4 H4 (g1.trans g4) c4 r4⟩⟩
    · obtain ⟨ds, e5, e6⟩ := Option.map_eq_some_iff.mp e2
      cases e6
      obtain ⟨a, xs, rfl, h1, h2⟩ := toL_ok c1 r1 e5
      exact ⟨a, xs, rfl, .inl ⟨h1, new_lst c1 (DaAll.reverse h2) fun φ4 v4 H4 g4 c4 r4 => k φ4 v4 H4 (g1.trans g4) c4 r4⟩⟩
  · cases e
/-! ### a list, a tuple times an int -/
theorem da_rep {K : PySem.W.Frag} {A : List Addr} {H : Hp} {ds : List PyData} {xs : List V} (h : DaAll K A H ds xs) : ∀ n : Nat, DaAll K A H (List.replicate n ds).flatten (List.replicate n xs).flatten
  | 0 => rfl
  | n + 1 => by
    rw [List.replicate_succ, List.replicate_succ, List.flatten_cons, List.flatten_cons]
    exact DaAll.append h (da_rep h n)
def repOk (ds : List PyData) (k : Int) : Bool := decide (ds ≠ [] ∧ 2 ≤ k ∧ k ≤ 1000 ∧ ds.length ≤ 1000)
@[simp] def oRep (μ : Mu) (x y : Vw) : Option Vw := match x, y with
  | .d (.tuple ds), .d (.int k) => if 2 ≤ k ∧ k ≤ 1000 ∧ 0 < ds.length ∧ ds.length ≤ 1000 then some (.d (.tuple (List.replicate k.toNat ds).flatten)) else none
  | x, .d (.int k) => (toLm μ x).bind fun ds => if k ≤ 1000000 ∧ -1000000 ≤ k ∧ ds.length * k.toNat ≤ 1000000 then some (.d (.list (List.replicate k.toNat ds).flatten)) else none
  | _, _ => none
theorem oRep_ok {K : PySem.W.Frag} : O2 K (fun x y H Q => rRepT K x y H Q ∨ rRep x y H Q) oRep := by
  intro φ H μ x y w u v Q c rx ry e k
  unfold oRep at e
  split at e
  · rename_i ds i
    split at e
    · rename_i h
      cases e
      obtain ⟨a, xs, rfl, h1, h2⟩ := rx
      cases ry
      have hl := h2.len
      exact .inl ⟨a, i, xs, rfl, rfl, h1, fun z => by rw [z] at hl; simp at hl; rw [hl] at h; simp at h, h.1, h.2.1, by rw [← hl]; exact h.2.2.2, new_tup c (da_rep h2 _) k⟩
    · cases e
  · rename_i i _
    obtain ⟨ds, e1, e2⟩ := Option.bind_eq_some_iff.mp e
    split at e2
    · rename_i h
      cases e2
      obtain ⟨a, xs, rfl, h1, h2⟩ := toLm_ok c rx e1
      cases ry
      exact .inr ⟨a, i, xs, rfl, rfl, h1, by omega, by omega, by rw [← h2.len]; exact size_ok h.2.2, new_lst c (da_rep h2 _) k⟩
    · cases e2
  · cases e
theorem ej_rep {X : Cx} {a b : Expr} {pos : Pos} {f g : EF} (ha : PE X a (tE X.K f)) (hb : PE X b (tE X.K g)) : PE X (.BinOp a .Mult b pos) (tE X.K (eB2 oRep f g)) := ej_op (OpR.or op_repT op_rep) oRep_ok ha hb
/-! ### a comprehension within a comprehension -/
theorem lookup_re {f : Str × NameKind → Str × NameKind} (hf : ∀ p, (f p).1 = p.1 ∧ (p.2 = .cell ∨ p.2 = .free → (f p).2 = .cell ∨ (f p).2 = .free)) : ∀ {names : List (Str × NameKind)} {x : Str}, names.lookup x = some .cell ∨ names.lookup x = some .free → (names.map f).lookup x = some .cell ∨ (names.map f).lookup x = some .free
  | [], _, h => by simp at h
  | p :: r, x, h => by
    obtain ⟨h1, h2⟩ := hf p
    obtain ⟨n, k⟩ := p
    rw [List.map_cons]
    generalize hz : f (n, k) = z at *
    obtain ⟨n', k'⟩ := z
    have h1' : n' = n := h1
    subst h1'
    by_cases e : x = n'
    · subst e
      have l1 : ∀ (k : NameKind) (r : List (Str × NameKind)), List.lookup x ((x, k) :: r) = some k := fun k r => by simp [List.lookup_cons]
      rw [l1] at h
      rw [l1]
      have : k = .cell ∨ k = .free := h.elim (fun z => .inl (Option.some.inj z)) fun z => .inr (Option.some.inj z)
      rcases h2 this with q | q
      · left; rw [show k' = .cell from q]
      · right; rw [show k' = .free from q]
    · have e' : (x == n') = false := by simpa using e
      have l2 : ∀ (k : NameKind) (r : List (Str × NameKind)), List.lookup x ((n', k) :: r) = List.lookup x r := fun k r => by simp only [List.lookup_cons, e']
      rw [l2] at h
      rw [l2]
      exact lookup_re hf h
theorem lookup_relabel {env : Env} {sc : Scope} {x : Str} (h : sc.names.lookup x = some .cell ∨ sc.names.lookup x = some .free) : (relabel sc env).names.lookup x = some .cell ∨ (relabel sc env).names.lookup x = some .free := by
  refine lookup_re (fun p => ?_) h
  obtain ⟨n, k⟩ := p
  by_cases c : (k == NameKind.free && env.scope.kind == .function && env.kindOf n == some .cell) = true
  · constructor
    · show (if _ then _ else _ : Str × NameKind).1 = _
      rw [if_pos c]
    · intro _; left
      show (if _ then _ else _ : Str × NameKind).2 = _
      rw [if_pos c]
  · constructor
    · show (if _ then _ else _ : Str × NameKind).1 = _
      rw [if_neg c]
    · intro h
      have e : (if (k == NameKind.free && env.scope.kind == .function && env.kindOf n == some .cell) = true then (n, NameKind.cell) else (n, k)) = (n, k) := if_neg c
      show (if (k == NameKind.free && env.scope.kind == .function && env.kindOf n == some .cell) = true then (n, NameKind.cell) else (n, k)).2 = _ ∨ (if (k == NameKind.free && env.scope.kind == .function && env.kindOf n == some .cell) = true then (n, NameKind.cell) else (n, k)).2 = _
      rw [e]; exact h
theorem blk_in {N : List Str} {sc scope : Scope} {env : Env} {own : List (Str × Nat)} (h : blkC N sc scope own = true) : BlkOk N (relabel sc env) scope own := by
  have b := blkOk_by h
  exact ⟨b.kind, b.uniq, b.ix, fun y hy e => lookup_relabel (b.free y hy e), b.own⟩
@[simp] def sPar3 (i j l : Nat) (f : AF) (ρ : Rho) (μ : Mu) : Option SR := match f ρ μ with
  | some ([v, w, u], μ1) => some (.nx (((ρ.set i (some v)).set j (some w)).set l (some u)) μ1)
  | _ => none
theorem sj_par3 {X : Cx} {i j l : Nat} {x y z : Str} {a b c : Expr} {f : AF} {px py pz pt pos : Pos} {kt k2 pt2} (hc : X.calm = true) (hN : X.N.Nodup) (hij : i ≠ j) (hil : i ≠ l) (hjl : j ≠ l) (ha : PA X [a, b, c] (tA X.K f)) (hi : X.N[i]? = some x := by rfl) (hj : X.N[j]? = some y := by rfl) (hl : X.N[l]? = some z := by rfl)
    (hx : X.env.scope.names.lookup x = some .local := by rfl) (hy : X.env.scope.names.lookup y = some .local := by rfl) (hz : X.env.scope.names.lookup z = some .local := by rfl)
    (hw : swappedStores [.Tuple [.Name x px, .Name y py, .Name z pz] kt pt] (.Tuple [a, b, c] k2 pt2) X.env = pure (some [x, y, z]) := by rfl)
    (hs : swapsWithSole [.Tuple [.Name x px, .Name y py, .Name z pz] kt pt] (.Tuple [a, b, c] k2 pt2) pos.line X.env = pure false := by rfl) :
    PS X (.Assign [.Tuple [.Name x px, .Name y py, .Name z pz] kt pt] (.Tuple [a, b, c] k2 pt2) pos) (tS X.K (sPar3 i j l f)) := PS.to (ps_par3 hc hN hi hj hl hij hil hjl hx hy hz ha hw hs) fun D σ H ⟨φ, ρ, μ, rs, k⟩ => by
  unfold sPar3 at k
  split at k
  · rename_i v w u μ1 e1
    refine ⟨φ, ρ, μ, _, μ1, rs, e1, fun φ1 vs H1 g1 c1 r1 => ?_⟩
    obtain ⟨u1, r, e2, h1, u2, r', e3, h2, u3, r'', e4, h3, e5⟩ := r1
    subst e2 e3 e4
    have e6 : r'' = [] := e5
    subst e6
    exact ⟨u1, u2, u3, rfl, k φ1 _ H1 g1 ((((rs.step g1 c1).put h1).put h2).put h3)⟩
  · exact k.elim
/-- a call that is not made -/
theorem ssj_never {X : Cx} {sts : List Stmt} : PSs X sts (tS X.K sNever) := ⟨fun pins s σ H D I ⟨φ, ρ, μ, rs, k⟩ => k.elim⟩
/-! ### a changed list walked from behind -/
def WkR (K : PySem.W.Frag) (φ : Ph) (H : Hp) (n : Nat) (all ds : List PyData) (J : It) : Prop := ∀ (φ' : Ph) (H' : Hp) (μ' : Mu), Grow φ φ' H H' → Cells K φ' H' μ' → μ'[n]? = some all → ∀ i : Nat,
  (∀ d, ds[i]? = some d → J.go i H' ∧ ∀ x H'', J.yld i H' x H'' → Grow φ' φ' H' H'' ∧ Cells K φ' H'' μ' ∧ Da K φ'.av H'' d x) ∧ (ds.length ≤ i → J.stop i H')
def tIR (K : PySem.W.Frag) (fe : EF) : TI := fun σ H R => ∃ φ ρ μ n all μ', RS K φ σ H ρ μ ∧ fe ρ μ = some (.loc n, μ') ∧ μ'[n]? = some all ∧ ∀ φ' J H', Grow φ φ' H H' → Cells K φ' H' μ' → WkR K φ' H' n all all.reverse J → R J H'
@[simp] noncomputable def sForR (fe : EF) (t : TF) (body : SF) (ρ : Rho) (μ : Mu) : Option SR := match fe ρ μ with
  | some (.loc n, μ1) => (match μ1[n]? with
    | some all => forM t body (some n) all all.reverse ρ μ1
    | none => none)
  | _ => none
theorem ij_revR {X : Cx} {tg e : Expr} {f : EF} {p pos : Pos} (hm : X.mg "reversed" = none) (he : PE X e (tE X.K f)) (hg : Gl X "reversed" := by rfl) (hs : starEach [e] X.env = (false, eval e X.env) :: starEach [] X.env := by rfl) : PI X tg (.Call (.Name "reversed" p) [e] [] pos) (tIR X.K f) :=
  PI.to (RT.pi_revA hg hm he hs) fun σ H R ⟨φ, ρ, μ, n, all, μ', rs, e1, e0, k⟩ => by
  refine ⟨φ, ρ, μ, _, _, rs, e1, fun φ1 v H1 g1 c1 r1 => ?_⟩
  obtain ⟨a, h1, h2⟩ := id r1
  obtain ⟨xs, h3, h4⟩ := c1.at_ n a all h1 e0
  refine ⟨a, xs, h2, .inl ⟨SqL.of h3, k φ1 _ H1 g1 c1 fun φ' H' μ2 g c hs i => ?_⟩⟩
  obtain ⟨b, h5, h6⟩ := RV.step g _ _ r1
  rw [h2] at h6; cases h6
  obtain ⟨ys, h1', h2'⟩ := c.at_ n a all h5 hs
  have ll : xs.length = ys.length := by rw [← h4.len, h2'.len]
  refine ⟨fun d e => ?_, fun hl => by
    show xs.length ≤ i
    rw [List.length_reverse] at hl
    rw [← h4.len]; exact hl⟩
  obtain ⟨hl, e3⟩ := rev_get e
  obtain ⟨z, e4, e5⟩ := h2'.get e3
  rw [h4.len] at e4
  refine ⟨⟨by rw [← h4.len]; exact hl, ys, z, SqL.of h1', e4⟩, fun x H'' hy => ?_⟩
  obtain ⟨rfl, hy⟩ := hy
  have := hy ys (SqL.of h1')
  rw [e4] at this; cases this
  exact ⟨.refl _ _, c, e5⟩
theorem sj_forR {X : Cx} {tg iter : Expr} {body : List Stmt} {fe : EF} {t : TF} {vs : List Nat} {g : SF} {pos : Pos} (hp : PassesOwn (model X.prog X.w) X.A X.env X.xe) (hc : X.calm = true) (hi : PI X tg iter (tIR X.K fe)) (hg : PG X tg (tG X.K t vs)) (hb : PSs X body (tS X.K g))
    (hs : ∀ x, foldedSetIterable iter X.env x = pure x := by intro _; rfl) : PS X (.For tg iter body [] pos) (tS X.K (sForR fe t g)) := PS.to (ps_for hp hc hi hg hb hs) fun D σ H ⟨φ, ρ, μ, rs, k⟩ => by
  unfold sForR at k
  split at k
  · rename_i n μ1 e1
    split at k
    · rename_i all e0
      refine ⟨φ, ρ, μ, n, all, μ1, rs, e1, e0, fun φ1 J H1 g1 c1 wk => ?_⟩
      generalize hds : all.reverse = ds at *
      refine ⟨fun i m σ' H' => m = ds.length - i ∧ ∃ φ2 ρ2 μ2, Grow φ1 φ2 H1 H' ∧ RS X.K φ2 σ' H' ρ2 μ2 ∧ SPost X.K φ2 H' D (forM t g (some n) all (ds.drop i) ρ2 μ2), ⟨_, rfl, φ1, ρ, μ1, .refl _ _, rs.step g1 c1, SPost.grow g1 k⟩, ?_⟩
      rintro i m σ2 H2 ⟨rfl, φ2, ρ2, μ2, g2, rs2, k2⟩
      cases hdi : ds.drop i with
      | nil =>
        rw [hdi] at k2
        unfold forM at k2
        split at k2
        · rename_i hsrc
          have hl : ds.length ≤ i := List.drop_eq_nil_iff.mp hdi
          exact .inl ⟨(wk φ2 H2 μ2 g2 rs2.c (hsrc n rfl) i).2 hl, k2 φ2 σ2 H2 (.refl _ _) rs2⟩
        · exact k2.elim
      | cons d r =>
        rw [hdi] at k2
        have hil : i < ds.length := by
          by_cases z : i < ds.length
          · exact z
          · rw [List.drop_eq_nil_iff.mpr (by omega)] at hdi; cases hdi
        have hdg : ds[i]? = some d := by
          have := List.getElem?_drop (xs := ds) (i := i) (j := 0)
          rw [hdi] at this
          simpa using this.symm
        have hdr : ds.drop (i + 1) = r := by
          have : (ds.drop i).drop 1 = ds.drop (i + 1) := by rw [List.drop_drop]
          rw [← this, hdi]; rfl
        unfold forM at k2
        split at k2
        · rename_i hsrc
          obtain ⟨go, hy⟩ := (wk φ2 H2 μ2 g2 rs2.c (hsrc n rfl) i).1 d hdg
          refine .inr ⟨go, fun σ' H' => ∃ φ3 ρ3 μ3, Grow φ1 φ3 H1 H' ∧ RS X.K φ3 σ' H' ρ3 μ3 ∧ SPost X.K φ3 H' D (forM t g (some n) all (ds.drop (i + 1)) ρ3 μ3), fun σ' H' hN => ⟨ds.length - (i + 1), by omega, rfl, hN⟩, fun x H3 hyl => ?_⟩
          obtain ⟨g3, c3, hx⟩ := hy x H3 hyl
          have rs3 := rs2.step g3 c3
          split at k2
          · exact k2.elim
          · rename_i ρ3 e3
            refine ⟨φ2, ρ2, μ2, .d d, ρ3, rs3, hx, e3, fun σ4 rs4 _ => ⟨φ2, ρ3, μ2, rs4, ?_⟩⟩
            rw [hdr]
            have k3 := SPost.grow g3 k2
            cases eb : g ρ3 μ2 with
            | none => rw [eb] at k3; exact k3
            | some z =>
              rw [eb] at k3
              cases z with
              | nx ρ5 μ5 => exact fun φ5 σ5 H5 g5 r5 => ⟨φ5, ρ5, μ5, (g2.trans g3).trans g5, r5, SPost.grow g5 k3⟩
              | ct ρ5 μ5 => exact fun φ5 σ5 H5 g5 r5 => ⟨φ5, ρ5, μ5, (g2.trans g3).trans g5, r5, SPost.grow g5 k3⟩
              | bk ρ5 μ5 => exact k3
              | rt w μ5 => exact k3
        · exact k2.elim
    · exact k.elim
  · exact k.elim
end VL
end
section
set_option Elab.async false
set_option linter.all false
namespace MF
open PySem
/-- the fraction t / b in lowest terms, the bottom above 0 -/
def L (t b : Int) : Int × Int := (t.fdiv (if b < 0 then -((Nat.gcd t.natAbs b.natAbs : Nat) : Int) else ((Nat.gcd t.natAbs b.natAbs : Nat) : Int)), b.fdiv (if b < 0 then -((Nat.gcd t.natAbs b.natAbs : Nat) : Int) else ((Nat.gcd t.natAbs b.natAbs : Nat) : Int)))
def IsF (p : Int × Int) : Prop := 0 < p.2 ∧ Nat.gcd p.1.natAbs p.2.natAbs = 1
theorem L_iff {s x y : Int} (hs : s ≠ 0) (hy : 0 < y) (h : Nat.gcd x.natAbs y.natAbs = 1) : L (s * x) (s * y) = (x, y) := by
  have e : Nat.gcd (s * x).natAbs (s * y).natAbs = s.natAbs := by
    rw [Int.natAbs_mul, Int.natAbs_mul, Nat.gcd_mul_left, h, Nat.mul_one]
  have e2 : (if s * y < 0 then -((s.natAbs : Nat) : Int) else ((s.natAbs : Nat) : Int)) = s := by
    by_cases c : s < 0
    · rw [if_pos (Int.mul_neg_of_neg_of_pos c hy)]; omega
    · have : 0 ≤ s * y := Int.mul_nonneg (by omega) (by omega)
      rw [if_neg (by omega)]; omega
  unfold L
  rw [e, e2, Int.mul_fdiv_cancel_left _ hs, Int.mul_fdiv_cancel_left _ hs]
theorem L_ex (t : Int) {b : Int} (hb : b ≠ 0) : ∃ s x y : Int, s ≠ 0 ∧ t = s * x ∧ b = s * y ∧ 0 < y ∧ Nat.gcd x.natAbs y.natAbs = 1 ∧ L t b = (x, y) := by
  have hg : 0 < Nat.gcd t.natAbs b.natAbs := Nat.gcd_pos_of_pos_right _ (by omega)
  have d1 : ((Nat.gcd t.natAbs b.natAbs : Nat) : Int) ∣ t := Int.ofNat_dvd_left.mpr (Nat.gcd_dvd_left _ _)
  have d2 : ((Nat.gcd t.natAbs b.natAbs : Nat) : Int) ∣ b := Int.ofNat_dvd_left.mpr (Nat.gcd_dvd_right _ _)
  obtain ⟨x, hx⟩ := d1
  obtain ⟨y, hy⟩ := d2
  generalize hgg : Nat.gcd t.natAbs b.natAbs = g at hg hx hy
  have cop : Nat.gcd x.natAbs y.natAbs = 1 := by
    have e : Nat.gcd t.natAbs b.natAbs = g * Nat.gcd x.natAbs y.natAbs := by
      rw [hx, hy, Int.natAbs_mul, Int.natAbs_mul, Int.natAbs_natCast, Nat.gcd_mul_left]
    rw [hgg] at e
    have : g * Nat.gcd x.natAbs y.natAbs = g * 1 := by omega
    exact Nat.eq_of_mul_eq_mul_left hg this
  have y0 : y ≠ 0 := by rintro rfl; simp at hy; exact hb hy
  by_cases c : 0 < y
  · refine ⟨g, x, y, by omega, hx, hy, c, cop, ?_⟩
    rw [hx, hy]
    exact L_iff (by omega) c cop
  · refine ⟨-(g : Int), -x, -y, by omega, by rw [Int.neg_mul_neg]; exact hx, by rw [Int.neg_mul_neg]; exact hy, by omega, by rw [Int.natAbs_neg, Int.natAbs_neg]; exact cop, ?_⟩
    have e1 : t = -(g : Int) * -x := by rw [Int.neg_mul_neg]; exact hx
    have e2 : b = -(g : Int) * -y := by rw [Int.neg_mul_neg]; exact hy
    rw [e1, e2]
    exact L_iff (by omega) (by omega) (by rw [Int.natAbs_neg, Int.natAbs_neg]; exact cop)
theorem L_isF (t : Int) {b : Int} (hb : b ≠ 0) : IsF (L t b) := by
  obtain ⟨s, x, y, hs, ht, hb', hy, hc, e⟩ := L_ex t hb
  rw [e]; exact ⟨hy, hc⟩
theorem L_of {p : Int × Int} (h : IsF p) : L p.1 p.2 = p := by
  have := L_iff (s := 1) (by decide) h.1 h.2
  simpa using this
theorem L_scale {k t b : Int} (hk : k ≠ 0) (hb : b ≠ 0) : L (k * t) (k * b) = L t b := by
  obtain ⟨s, x, y, hs, ht, hb', hy, hc, e⟩ := L_ex t hb
  rw [e, ht, hb', ← Int.mul_assoc, ← Int.mul_assoc]
  exact L_iff (Int.mul_ne_zero hk hs) hy hc
theorem nabs_le {s x : Int} (hs : s ≠ 0) : x.natAbs ≤ (s * x).natAbs := by
  rw [Int.natAbs_mul]
  exact Nat.le_mul_of_pos_left _ (by omega)
theorem L_le1 (t : Int) {b : Int} (hb : b ≠ 0) : (L t b).1.natAbs ≤ t.natAbs := by
  obtain ⟨s, x, y, hs, ht, hb', hy, hc, e⟩ := L_ex t hb
  rw [e, ht]; exact nabs_le hs
theorem L_le2 (t : Int) {b : Int} (hb : b ≠ 0) : (L t b).2.natAbs ≤ b.natAbs := by
  obtain ⟨s, x, y, hs, ht, hb', hy, hc, e⟩ := L_ex t hb
  rw [e, hb']; exact nabs_le hs
/-- what stands for the same -/
theorem L_eq {t b u c : Int} (hb : b ≠ 0) (hc : c ≠ 0) (h : t * c = u * b) : L t b = L u c := by
  rw [← L_scale (k := c) hc hb, ← L_scale (k := b) hb hc, Int.mul_comm c t, Int.mul_comm b u, h, Int.mul_comm c b]
theorem L_val (t : Int) {b : Int} (hb : b ≠ 0) : (L t b).1 * b = t * (L t b).2 := by
  obtain ⟨s, x, y, hs, ht, hb', hy, hc, e⟩ := L_ex t hb
  rw [e, ht, hb']
  show x * (s * y) = s * x * y
  rw [← Int.mul_assoc, Int.mul_comm x s]
end MF
end
section
set_option Elab.async false
set_option linter.all false
namespace MF
/-! ### as rational numbers -/
def val (p : Int × Int) : Rat := Rat.divInt p.1 p.2
theorem val_L (t : Int) {b : Int} (hb : b ≠ 0) : val (L t b) = Rat.divInt t b := by
  have h := (L_isF t hb).1
  exact (Rat.divInt_eq_divInt_iff (by omega) hb).mpr (L_val t hb)
theorem val_inj {p q : Int × Int} (hp : IsF p) (hq : IsF q) (h : val p = val q) : p = q := by
  have := (Rat.divInt_eq_divInt_iff (by have := hp.1; omega) (by have := hq.1; omega)).mp h
  rw [← L_of hp, ← L_of hq]
  exact L_eq (by have := hp.1; omega) (by have := hq.1; omega) this
theorem val_add {p q : Int × Int} (hp : 0 < p.2) (hq : 0 < q.2) : val (L (p.1 * q.2 + q.1 * p.2) (p.2 * q.2)) = val p + val q := by
  rw [val_L _ (Int.mul_ne_zero (by omega) (by omega))]
  exact (Rat.divInt_add_divInt _ _ (by omega) (by omega)).symm
theorem val_mul {p q : Int × Int} (hp : 0 < p.2) (hq : 0 < q.2) : val (L (p.1 * q.1) (p.2 * q.2)) = val p * val q := by
  rw [val_L _ (Int.mul_ne_zero (by omega) (by omega))]
  exact (Rat.divInt_mul_divInt _ _ ).symm
theorem val_lt {p q : Int × Int} (hp : 0 < p.2) (hq : 0 < q.2) : p.1 * q.2 < q.1 * p.2 ↔ val p < val q := by
  unfold val
  have e1 : Rat.divInt p.1 p.2 = (p.1 : Rat) / (p.2 : Rat) := Rat.divInt_eq_div _ _
  have e2 : Rat.divInt q.1 q.2 = (q.1 : Rat) / (q.2 : Rat) := Rat.divInt_eq_div _ _
  have a1 : (0 : Rat) < (p.2 : Rat) := Rat.intCast_pos.mpr hp
  have a2 : (0 : Rat) < (q.2 : Rat) := Rat.intCast_pos.mpr hq
  rw [e1, e2, Rat.div_lt_iff a1]
  have e3 : (q.1 : Rat) / (q.2 : Rat) * (p.2 : Rat) = ((q.1 : Rat) * (p.2 : Rat)) / (q.2 : Rat) := by rw [Rat.div_def, Rat.div_def]; grind
  rw [e3, Rat.lt_div_iff a2]
  rw [← Rat.intCast_mul, ← Rat.intCast_mul, Rat.intCast_lt_intCast]
theorem val_zero : val (0, 1) = 0 := by decide +kernel
theorem val_one : val (1, 1) = 1 := by decide +kernel
theorem val_nonneg {p : Int × Int} (hp : 0 < p.2) (h : 0 ≤ p.1) : 0 ≤ val p := Rat.divInt_nonneg h (by omega)
/-! ### sums of products -/
def dot : List Rat → List Rat → Rat
  | w :: ws, x :: xs => w * x + dot ws xs
  | _, _ => 0
def tot : List Rat → Rat
  | [] => 0
  | x :: xs => x + tot xs
theorem dot_ge {m : Rat} : ∀ {ws xs : List Rat}, ws.length = xs.length → (∀ w ∈ ws, 0 ≤ w) → (∀ x ∈ xs, m ≤ x) → m * tot ws ≤ dot ws xs
  | [], [], _, _, _ => by simp [dot, tot]
  | w :: ws, x :: xs, hl, hw, hx => by
    have ih := dot_ge (m := m) (ws := ws) (xs := xs) (by simpa using hl) (fun a h => hw a (by simp [h])) (fun a h => hx a (by simp [h]))
    have h1 : w * m ≤ w * x := Rat.mul_le_mul_of_nonneg_left (hx x (by simp)) (hw w (by simp))
    unfold dot tot
    grind
theorem dot_le {m : Rat} : ∀ {ws xs : List Rat}, ws.length = xs.length → (∀ w ∈ ws, 0 ≤ w) → (∀ x ∈ xs, x ≤ m) → dot ws xs ≤ m * tot ws
  | [], [], _, _, _ => by simp [dot, tot]
  | w :: ws, x :: xs, hl, hw, hx => by
    have ih := dot_le (m := m) (ws := ws) (xs := xs) (by simpa using hl) (fun a h => hw a (by simp [h])) (fun a h => hx a (by simp [h]))
    have h1 : w * x ≤ w * m := Rat.mul_le_mul_of_nonneg_left (hx x (by simp)) (hw w (by simp))
    unfold dot tot
    grind
theorem low_ex : ∀ {xs : List Rat}, xs ≠ [] → ∃ y ∈ xs, ∀ x ∈ xs, y ≤ x
  | [x], _ => ⟨x, by simp, by simp⟩
  | x :: y :: xs, _ => by
    obtain ⟨z, hz, h⟩ := low_ex (xs := y :: xs) (by simp)
    rcases Rat.le_total (a := x) (b := z) with c | c
    · exact ⟨x, by simp, fun a ha => by
        rcases List.mem_cons.mp ha with rfl | ha
        · exact Rat.le_refl
        · exact Rat.le_trans c (h a ha)⟩
    · exact ⟨z, List.mem_cons_of_mem _ hz, fun a ha => by
        rcases List.mem_cons.mp ha with rfl | ha
        · exact c
        · exact h a ha⟩
theorem high_ex : ∀ {xs : List Rat}, xs ≠ [] → ∃ y ∈ xs, ∀ x ∈ xs, x ≤ y
  | [x], _ => ⟨x, by simp, by simp⟩
  | x :: y :: xs, _ => by
    obtain ⟨z, hz, h⟩ := high_ex (xs := y :: xs) (by simp)
    rcases Rat.le_total (a := z) (b := x) with c | c
    · exact ⟨x, by simp, fun a ha => by
        rcases List.mem_cons.mp ha with rfl | ha
        · exact Rat.le_refl
        · exact Rat.le_trans (h a ha) c⟩
    · exact ⟨z, List.mem_cons_of_mem _ hz, fun a ha => by
        rcases List.mem_cons.mp ha with rfl | ha
        · exact c
        · exact h a ha⟩
theorem dot_mix (a b : Rat) : ∀ (f l s : List Rat), f.length = s.length → l.length = s.length → a * dot f s + b * dot l s = dot (List.zipWith (fun x y => a * x + b * y) f l) s
  | [], [], [], _, _ => by simp only [dot, List.zipWith_nil_left]; grind
  | [], _ :: _, s, h1, h2 => by simp at h1 h2; omega
  | _ :: _, [], s, h1, h2 => by simp at h1 h2; omega
  | [], [], _ :: _, h1, h2 => by simp at h1
  | x :: f, y :: l, z :: s, h1, h2 => by
    have ih := dot_mix a b f l s (by simpa using h1) (by simpa using h2)
    simp only [List.zipWith_cons_cons, dot]
    grind
end MF
end
section
set_option Elab.async false
set_option linter.all false
namespace MF
/-! ### the simplest fraction of a stretch -/
structure Sx (a b c d : Nat) : Prop where
  a0 : 0 < a
  b0 : 0 < b
  d0 : 0 < d
  g1 : Nat.gcd a b = 1
  g2 : Nat.gcd c d = 1
  le : a * d ≤ c * b
theorem mod_pos {a b : Nat} (hb : 1 < b) (hg : Nat.gcd a b = 1) : 0 < a % b := by
  rcases Nat.eq_zero_or_pos (a % b) with h | h
  · have h1 : b ∣ a := Nat.dvd_of_mod_eq_zero h
    have : b ∣ 1 := by rw [← hg]; exact Nat.dvd_gcd h1 (Nat.dvd_refl b)
    have := Nat.le_of_dvd (by omega) this
    omega
  · exact h
theorem gcd_mod {c d : Nat} (h : Nat.gcd c d = 1) : Nat.gcd d (c % d) = 1 := by
  rw [← h, Nat.gcd_comm d (c % d), ← Nat.gcd_rec, Nat.gcd_comm]
theorem Sx.step {a b c d : Nat} (h : Sx a b c d) (hb : 1 < b) (hq : a / b = c / d) : Sx d (c % d) b (a % b) := by
  have r0 := mod_pos hb h.g1
  have g3 := gcd_mod h.g2
  have g4 := gcd_mod h.g1
  have e1 := Nat.div_add_mod a b
  have e2 := Nat.div_add_mod c d
  have le := h.le
  generalize a / b = q at *
  subst hq
  generalize c % d = s at *
  generalize a % b = r at *
  have key : r * d ≤ s * b := by
    rw [← e1, ← e2] at le
    grind
  have s0 : 0 < s := by
    rcases Nat.eq_zero_or_pos s with z | z
    · subst z
      have : 0 < r * d := Nat.mul_pos r0 h.d0
      omega
    · exact z
  exact ⟨h.d0, s0, r0, g3, g4, by grind⟩
/-- the way down: the wholes, and the stretch's lower end where it ends -/
def cf : Nat → Nat → Nat → Nat → Nat → List Nat × Nat × Nat
  | 0, a, b, _, _ => ([], a, b)
  | n + 1, a, b, c, d => if 1 < b ∧ a / b = c / d then (a / b :: (cf n d (c % d) b (a % b)).1, (cf n d (c % d) b (a % b)).2) else ([], a, b)
def ceil (a b : Nat) : Nat := (a + b - 1) / b
def back (qs : List Nat) (t : Nat) : Nat × Nat := qs.foldr (fun q r => (q * r.1 + r.2, r.1)) (t, 1)
def smp (n a b c d : Nat) : Nat × Nat := back (cf n a b c d).1 (ceil (cf n a b c d).2.1 (cf n a b c d).2.2)
theorem ceil_iff {a b p : Nat} (hb : 0 < b) : ceil a b ≤ p ↔ a ≤ p * b := by
  unfold ceil
  rw [← Nat.lt_succ_iff, Nat.div_lt_iff_lt_mul hb, Nat.succ_mul]
  omega
theorem ceil_le {a b : Nat} (hb : 0 < b) : a ≤ ceil a b * b := (ceil_iff hb).mp (Nat.le_refl _)
theorem ceil_div {a b : Nat} (hb : 0 < b) : ceil a b ≤ a / b + 1 := by
  rw [ceil_iff hb]
  have := Nat.div_add_mod a b
  have := Nat.mod_lt a hb
  rw [Nat.add_mul, Nat.mul_comm]
  omega
/-- where it ends, the next integer is in the stretch -/
theorem Sx.ends {a b c d : Nat} (h : Sx a b c d) (hn : ¬ (1 < b ∧ a / b = c / d)) : ceil a b * d ≤ c := by
  by_cases hb : 1 < b
  · have hq : a / b ≠ c / d := fun e => hn ⟨hb, e⟩
    have h1 : a / b ≤ c / d := by
      rw [Nat.le_div_iff_mul_le h.d0]
      have e1 := Nat.div_mul_le_self a b
      have : a / b * b * d ≤ a * d := Nat.mul_le_mul_right d e1
      have le := h.le
      refine Nat.le_of_mul_le_mul_right (c := b) ?_ h.b0
      grind
    have h2 := ceil_div (a := a) h.b0
    have h3 : ceil a b ≤ c / d := by omega
    exact Nat.le_trans (Nat.mul_le_mul_right d h3) (Nat.div_mul_le_self c d)
  · have hb1 : b = 1 := by have := h.b0; omega
    subst hb1
    have : ceil a 1 = a := by unfold ceil; simp
    rw [this]
    have := h.le
    omega
theorem Sx.goes {a b c d : Nat} (h : Sx a b c d) (hb : 1 < b) (hq : a / b = c / d) : ceil a b = a / b + 1 ∧ c < ceil a b * d := by
  have r0 := mod_pos hb h.g1
  have e1 := Nat.div_add_mod a b
  have h1 : ceil a b = a / b + 1 := by
    have h2 := ceil_div (a := a) h.b0
    have h3 : ¬ ceil a b ≤ a / b := by
      rw [ceil_iff h.b0, Nat.mul_comm]; omega
    omega
  refine ⟨h1, ?_⟩
  rw [h1, hq]
  have e2 := Nat.div_add_mod c d
  have := Nat.mod_lt c h.d0
  rw [Nat.add_mul, Nat.mul_comm]; omega
/-- what is found: in lowest terms, in the stretch, and no other one has a lesser top or a lesser bottom -/
structure Smp (a b c d x y : Nat) : Prop where
  x0 : 0 < x
  y0 : 0 < y
  g : Nat.gcd x y = 1
  lo : a * y ≤ x * b
  hi : x * d ≤ c * y
  min : ∀ p s, 0 < s → a * s ≤ p * b → p * d ≤ c * s → x ≤ p ∧ y ≤ s
theorem smp_ok : ∀ (n a b c d : Nat), Sx a b c d → b + d ≤ n → Smp a b c d (smp n a b c d).1 (smp n a b c d).2
  | 0, a, b, c, d, h, hn => by have := h.b0; omega
  | n + 1, a, b, c, d, h, hn => by
    by_cases hg : 1 < b ∧ a / b = c / d
    · have hs := h.step hg.1 hg.2
      have l1 := Nat.mod_lt c h.d0
      have l2 := Nat.mod_lt a h.b0
      have ih := smp_ok n d (c % d) b (a % b) hs (by omega)
      have es : smp (n + 1) a b c d = (a / b * (smp n d (c % d) b (a % b)).1 + (smp n d (c % d) b (a % b)).2, (smp n d (c % d) b (a % b)).1) := by
        unfold smp
        simp only [cf, if_pos hg]
        rfl
      rw [es]
      generalize smp n d (c % d) b (a % b) = z at *
      obtain ⟨x, y⟩ := z
      have e1 := Nat.div_add_mod a b
      have e2 := Nat.div_add_mod c d
      have hq := hg.2
      have r0 := mod_pos hg.1 h.g1
      generalize a / b = q at *
      subst hq
      generalize c / d = q at *
      generalize c % d = s' at *
      generalize a % b = r at *
      obtain ⟨x0, y0, g, lo, hi, mn⟩ := ih
      simp only at x0 y0 g lo hi mn
      refine ⟨by show 0 < q * x + y; omega, x0, ?_, ?_, ?_, fun p s hs0 h1 h2 => ?_⟩
      · show Nat.gcd (q * x + y) x = 1
        rw [Nat.add_comm, Nat.gcd_comm, Nat.gcd_add_mul_right_right]; exact g
      · show a * x ≤ (q * x + y) * b
        rw [← e1]; grind
      · show (q * x + y) * d ≤ c * x
        rw [← e2]; grind
      · show q * x + y ≤ p ∧ x ≤ s
        rw [← e1] at h1
        rw [← e2] at h2
        have hp : q * s ≤ p := by
          refine Nat.le_of_mul_le_mul_right (c := b) ?_ h.b0
          have : 0 ≤ r * s := Nat.zero_le _
          grind
        obtain ⟨u, rfl⟩ := Nat.exists_eq_add_of_le hp
        have k1 : r * s ≤ u * b := by grind
        have k2 : u * d ≤ s' * s := by grind
        have u0 : 0 < u := by
          rcases Nat.eq_zero_or_pos u with z | z
          · subst z
            have : 0 < r * s := Nat.mul_pos r0 hs0
            omega
          · exact z
        obtain ⟨m1, m2⟩ := mn s u u0 (by grind) (by grind)
        refine ⟨?_, m1⟩
        have := Nat.mul_le_mul_left q m1
        omega
    · have es : smp (n + 1) a b c d = (ceil a b, 1) := by
        unfold smp
        simp only [cf, if_neg hg]
        rfl
      rw [es]
      have h1 := h.ends hg
      have h2 := ceil_le (a := a) h.b0
      have t0 : 0 < ceil a b := by
        rcases Nat.eq_zero_or_pos (ceil a b) with z | z
        · rw [z] at h2; have := h.a0; omega
        · exact z
      refine ⟨t0, Nat.one_pos, Nat.gcd_one_right _, by simpa using h2, by simpa using h1, fun p s hs0 k1 k2 => ⟨?_, hs0⟩⟩
      show ceil a b ≤ p
      rw [ceil_iff h.b0]
      exact Nat.le_trans (Nat.le_mul_of_pos_right a hs0) k1
/-- how long the way is -/
theorem cf_len : ∀ (k n a b c d : Nat), Sx a b c d → b < 2 ^ k → (cf n a b c d).1.length ≤ 2 * k
  | 0, n, a, b, c, d, h, hb => by have := h.b0; simp at hb; omega
  | k + 1, 0, a, b, c, d, h, hb => by simp [cf]
  | k + 1, 1, a, b, c, d, h, hb => by
    simp only [cf]
    split <;> simp [cf]
    omega
  | k + 1, n + 2, a, b, c, d, h, hb => by
    by_cases hg : 1 < b ∧ a / b = c / d
    · have hs := h.step hg.1 hg.2
      have e : cf (n + 2) a b c d = (a / b :: (cf (n + 1) d (c % d) b (a % b)).1, (cf (n + 1) d (c % d) b (a % b)).2) := by
        show (if 1 < b ∧ a / b = c / d then _ else _) = _
        rw [if_pos hg]
      rw [e]
      by_cases hg2 : 1 < c % d ∧ d / (c % d) = b / (a % b)
      · have hs2 := hs.step hg2.1 hg2.2
        have e2 : cf (n + 1) d (c % d) b (a % b) = (d / (c % d) :: (cf n (a % b) (b % (a % b)) (c % d) (d % (c % d))).1, (cf n (a % b) (b % (a % b)) (c % d) (d % (c % d))).2) := by
          show (if 1 < c % d ∧ d / (c % d) = b / (a % b) then _ else _) = _
          rw [if_pos hg2]
        rw [e2]
        have l1 := Nat.mod_lt a h.b0
        have l2 := Nat.mod_lt b (y := a % b) hs.d0
        have l3 : a % b ≤ b := by omega
        have l4 : b % (a % b) + (a % b) ≤ b := by
          have := Nat.div_add_mod b (a % b)
          have q1 : 1 ≤ b / (a % b) := (Nat.le_div_iff_mul_le hs.d0).mpr (by omega)
          have := Nat.mul_le_mul_left (a % b) q1
          omega
        have ih := cf_len k n (a % b) (b % (a % b)) (c % d) (d % (c % d)) hs2 (by rw [Nat.pow_succ] at hb; omega)
        simp only [List.length_cons]
        omega
      · have e2 : cf (n + 1) d (c % d) b (a % b) = ([], d, c % d) := by
          show (if 1 < c % d ∧ d / (c % d) = b / (a % b) then _ else _) = _
          rw [if_neg hg2]
        rw [e2]
        simp
        omega
    · have e : cf (n + 2) a b c d = ([], a, b) := by
        show (if 1 < b ∧ a / b = c / d then _ else _) = _
        rw [if_neg hg]
      rw [e]; simp
end MF
end
section
set_option Elab.async false
set_option linter.all false
set_option maxRecDepth 100000
namespace MR
open PySem PySem.Spec PyProof.Rows L2 VL
/-! the mirror of the text, made by a program -/
noncomputable def b__law_dice : SF := (sSeq (sAsg (eIf (bE (eB2 oLt (eV 1) (eBi oLen (aCons (eV 0) aNil)))) (eBi oInt (aCons (eB2 oIx (eV 0) (eV 1)) aNil)) (eB2 oAdd (eB2 oMul (eC (.int 71)) (eV 1)) (eC (.int 43)))) (tNm 2))
  (sSeq (sAsg (eB2 oMod (eBi oMax2 (aCons (eC (.int 0)) (aCons (eB2 oSub (eBi oAbs (aCons (eV 2) aNil)) (eB2 oPow (eC (.int 10)) (eC (.int 16)))) aNil))) (eB2 oMul (eB2 oPow (eC (.int 10)) (eC (.int 57))) (eB2 oPow (eC (.int 10)) (eC (.int 59))))) (tNm 3))
  (sRet (eLstC (aCons (eV 3) (aCons (eB2 oAdd (eB2 oAdd (eB2 oAdd (eB2 oMul (eB2 oMod (eBi oAbs (aCons (eV 2) aNil)) (eC (.int 1152921504606846869))) (eC (.int 89))) (eB2 oMul (eC (.int 1021)) (eV 1))) (eB2 oMul (eC (.int 47)) (eBi oInt (aCons (eB2 oLt (eV 2) (eC (.int 0))) aNil)))) (eC (.int 31))) (aCons (eC (.int 0)) aNil)))))))
noncomputable def m__law_dice : FM := fnM true 4 b__law_dice
noncomputable def b_is_row : SF := (sRet (eAnd (eIsi "tuple" (eV 1)) (eB2 (oEq false) (eBi oLen (aCons (eV 1) aNil)) (eV 0))))
noncomputable def m_is_row : FM := fnM false 2 b_is_row
noncomputable def b_is_number : SF := (sRet (eAnd (eIsi "int" (eV 0)) (eAnd (eNotT (eIsi "bool" (eV 0))) (eChain oLe oLe (eB1 oNeg (eC (.int 999999999999999999999999999999999999999999999999999999999999))) (eV 0) (eC (.int 999999999999999999999999999999999999999999999999999999999999))))))
noncomputable def m_is_number : FM := fnM false 1 b_is_number
noncomputable def b_is_fraction : SF := (sSeq (sIf (bOr (bNot (bTru (eCall 2 m_is_row (aCons (eC (.int 2)) (aCons (eV 0) aNil))))) (bOr (bNot (bTru (eCall 1 m_is_number (aCons (eB2 oIx (eV 0) (eC (.int 0))) aNil)))) (bNot (bTru (eCall 1 m_is_number (aCons (eB2 oIx (eV 0) (eC (.int 1))) aNil)))))) (sRet (eC (.bool false))) sNx)
  (sRet (eAnd (eB2 oGt (eB2 oIx (eV 0) (eC (.int 1))) (eC (.int 0))) (eB2 (oEq false) (eBi oGcd (aCons (eB2 oIx (eV 0) (eC (.int 0))) (aCons (eB2 oIx (eV 0) (eC (.int 1))) aNil))) (eC (.int 1))))))
noncomputable def m_is_fraction : FM := fnM false 1 b_is_fraction
noncomputable def b_check_fraction : SF := (sIf (bNot (bTru (eCall 1 m_is_fraction (aCons (eV 0) aNil)))) sNever sNx)
noncomputable def m_check_fraction : FM := fnM false 1 b_check_fraction
noncomputable def b_check_both : SF := (sSeq (sDrop (eCall 1 m_check_fraction (aCons (eV 0) aNil)))
  (sDrop (eCall 1 m_check_fraction (aCons (eV 1) aNil))))
noncomputable def m_check_both : FM := fnM false 2 b_check_both
noncomputable def b_whole_of : SF := (sRet (eB2 oDiv (eB2 oIx (eV 0) (eC (.int 0))) (eB2 oIx (eV 0) (eC (.int 1)))))
noncomputable def m_whole_of : FM := fnM false 1 b_whole_of
noncomputable def b_turned_over : SF := (sRet (eTup (aCons (eB2 oIx (eV 0) (eC (.int 1))) (aCons (eB2 oIx (eV 0) (eC (.int 0))) aNil))))
noncomputable def m_turned_over : FM := fnM false 1 b_turned_over
noncomputable def b_reduced : SF := (sSeq (sAsg (eBi oGcd (aCons (eV 0) (aCons (eV 1) aNil))) (tNm 2))
  (sSeq (sIf (bE (eB2 oLt (eV 1) (eC (.int 0)))) (sAsg (eB1 oNeg (eV 2)) (tNm 2)) sNx)
  (sRet (eTup (aCons (eB2 oDiv (eV 0) (eV 2)) (aCons (eB2 oDiv (eV 1) (eV 2)) aNil))))))
noncomputable def m_reduced : FM := fnM false 3 b_reduced
noncomputable def b_rest_of : SF := (sRet (eCall 2 m_reduced (aCons (eB2 oSub (eB2 oIx (eV 0) (eC (.int 0))) (eB2 oMul (eCall 1 m_whole_of (aCons (eV 0) aNil)) (eB2 oIx (eV 0) (eC (.int 1))))) (aCons (eB2 oIx (eV 0) (eC (.int 1))) aNil))))
noncomputable def m_rest_of : FM := fnM false 1 b_rest_of
noncomputable def t1_simplest_above : BF := (bAnd (bE (eB2 oGt (eB2 oIx (eV 0) (eC (.int 1))) (eC (.int 1)))) (bE (eB2 (oEq false) (eCall 1 m_whole_of (aCons (eV 0) aNil)) (eCall 1 m_whole_of (aCons (eV 1) aNil)))))
noncomputable def w2_simplest_above : SF := (sSeq (sApp (eV 2) (eCall 1 m_whole_of (aCons (eV 0) aNil)))
  (sPar 0 1 (aCons (eCall 1 m_turned_over (aCons (eCall 1 m_rest_of (aCons (eV 1) aNil)) aNil)) (aCons (eCall 1 m_turned_over (aCons (eCall 1 m_rest_of (aCons (eV 0) aNil)) aNil)) aNil))))
noncomputable def w3_simplest_above : SF := (sPar 3 4 (aCons (eB2 oAdd (eB2 oMul (eV 5) (eV 3)) (eV 4)) (aCons (eV 3) aNil)))
noncomputable def b_simplest_above : SF := (sSeq (sAsg (eLstC aNil) (tNm 2))
  (sSeq (sWhile t1_simplest_above w2_simplest_above FUEL)
  (sSeq (sPar 3 4 (aCons (eB1 oNeg (eB2 oDiv (eB1 oNeg (eB2 oIx (eV 0) (eC (.int 0)))) (eB2 oIx (eV 0) (eC (.int 1))))) (aCons (eC (.int 1)) aNil)))
  (sSeq (sForR (eV 2) (tNm 5) w3_simplest_above)
  (sRet (eTup (aCons (eV 3) (aCons (eV 4) aNil))))))))
noncomputable def m_simplest_above : FM := fnM false 6 b_simplest_above
noncomputable def b_simplest_between : SF := (sSeq (sIf (bE (eChain oLe oLe (eB2 oIx (eV 0) (eC (.int 0))) (eC (.int 0)) (eB2 oIx (eV 1) (eC (.int 0))))) (sRet (eC (.tuple [(.int 0), (.int 1)]))) sNx)
  (sSeq (sIf (bE (eB2 oLt (eB2 oIx (eV 1) (eC (.int 0))) (eC (.int 0)))) (sSeq (sAsg (eCall 2 m_simplest_above (aCons (eTup (aCons (eB1 oNeg (eB2 oIx (eV 1) (eC (.int 0)))) (aCons (eB2 oIx (eV 1) (eC (.int 1))) aNil))) (aCons (eTup (aCons (eB1 oNeg (eB2 oIx (eV 0) (eC (.int 0)))) (aCons (eB2 oIx (eV 0) (eC (.int 1))) aNil))) aNil))) (tTp (lCons (tNm 2) (lCons (tNm 3) lNil))))
  (sRet (eTup (aCons (eB1 oNeg (eV 2)) (aCons (eV 3) aNil))))) sNx)
  (sRet (eCall 2 m_simplest_above (aCons (eV 0) (aCons (eV 1) aNil))))))
noncomputable def m_simplest_between : FM := fnM false 4 b_simplest_between
noncomputable def b_order_of : SF := (sSeq (sAsg (eB2 oMul (eB2 oIx (eV 0) (eC (.int 0))) (eB2 oIx (eV 1) (eC (.int 1)))) (tNm 2))
  (sSeq (sAsg (eB2 oMul (eB2 oIx (eV 1) (eC (.int 0))) (eB2 oIx (eV 0) (eC (.int 1)))) (tNm 3))
  (sSeq (sIf (bE (eB2 oLt (eV 2) (eV 3))) (sRet (eB1 oNeg (eC (.int 1)))) sNx)
  (sSeq (sIf (bE (eB2 oGt (eV 2) (eV 3))) (sRet (eC (.int 1))) sNx)
  (sRet (eC (.int 0)))))))
noncomputable def m_order_of : FM := fnM false 4 b_order_of
noncomputable def b_simplest : SF := (sSeq (sDrop (eCall 2 m_check_both (aCons (eV 0) (aCons (eV 1) aNil))))
  (sSeq (sIf (bE (eB2 oGt (eCall 2 m_order_of (aCons (eV 0) (aCons (eV 1) aNil))) (eC (.int 0)))) sNever sNx)
  (sRet (eCall 2 m_simplest_between (aCons (eV 0) (aCons (eV 1) aNil))))))
noncomputable def m_simplest : FM := fnM false 2 b_simplest
noncomputable def b_steps_for : SF := (sSeq (sDrop (eCall 2 m_check_both (aCons (eV 0) (aCons (eV 1) aNil))))
  (sSeq (sIf (bOr (bE (eB2 oLt (eB2 oIx (eV 0) (eC (.int 0))) (eC (.int 0)))) (bE (eB2 oLe (eB2 oIx (eV 1) (eC (.int 0))) (eC (.int 0))))) sNever sNx)
  (sRet (eB1 oNeg (eB2 oDiv (eB2 oMul (eB1 oNeg (eB2 oIx (eV 0) (eC (.int 0)))) (eB2 oIx (eV 1) (eC (.int 1)))) (eB2 oMul (eB2 oIx (eV 0) (eC (.int 1))) (eB2 oIx (eV 1) (eC (.int 0)))))))))
noncomputable def m_steps_for : FM := fnM false 2 b_steps_for
noncomputable def b__law_roll : SF := (sSeq (sIf (bE (eB2 oGt (eB2 oIx (eV 0) (eC (.int 0))) (eC (.int 0)))) (sSeq (sAsg (eB2 oMod (eBi oInt (aCons (eB2 oIx (eV 0) (eC (.int 0))) aNil)) (eV 1)) (tNm 2))
  (sSeq (sSubS (eB2 oDiv (eB2 oIx (eV 0) (eC (.int 0))) (eV 1)) (eV 0) (eC (.int 0)))
  (sRet (eV 2)))) sNx)
  (sSeq (sSubS (eB2 oAdd (eB2 oIx (eV 0) (eC (.int 2))) (eC (.int 1))) (eV 0) (eC (.int 2)))
  (sSeq (sAsg (eB2 oMod (eBi oInt (aCons (eB2 oAdd (eB2 oIx (eV 0) (eC (.int 1))) (eB2 oMul (eC (.int 71828177)) (eB2 oIx (eV 0) (eC (.int 2))))) aNil)) (eC (.int 2305843009213693421))) (tNm 3))
  (sSeq (sAsg (eB2 oAdd (eB2 oMul (eB2 oMod (eBi oInt (aCons (eB2 oAdd (eB2 oMul (eV 3) (eV 3)) (eB2 oMul (eC (.int 89)) (eB2 oIx (eV 0) (eC (.int 2))))) aNil)) (eC (.int 2305843009213693381))) (eC (.int 8128163))) (eV 3)) (tNm 4))
  (sRet (eB2 oMod (eBi oInt (aCons (eB2 oDiv (eV 4) (eC (.int 65579))) aNil)) (eV 1)))))))
noncomputable def m__law_roll : FM := fnM false 5 b__law_roll
noncomputable def b__law_pick : SF := (sRet (eB2 oIx (eV 1) (eCall 2 m__law_roll (aCons (eV 0) (aCons (eBi oLen (aCons (eV 1) aNil)) aNil)))))
noncomputable def m__law_pick : FM := fnM false 2 b__law_pick
noncomputable def t1__law_fr_low : BF := (bE (eB2 (oEq true) (eV 3) (eC (.int 0))))
noncomputable def w2__law_fr_low : SF := (sPar 2 3 (aCons (eV 3) (aCons (eB2 oMod (eV 2) (eV 3)) aNil)))
noncomputable def b__law_fr_low : SF := (sSeq (sPar 2 3 (aCons (eBi oAbs (aCons (eV 0) aNil)) (aCons (eBi oAbs (aCons (eV 1) aNil)) aNil)))
  (sSeq (sWhile t1__law_fr_low w2__law_fr_low FUEL)
  (sSeq (sAsg (eIf (bE (eB2 oGt (eV 1) (eC (.int 0)))) (eC (.int 1)) (eB1 oNeg (eC (.int 1)))) (tNm 4))
  (sRet (eTup (aCons (eB2 oDiv (eB2 oMul (eV 4) (eV 0)) (eV 2)) (aCons (eB2 oDiv (eB2 oMul (eV 4) (eV 1)) (eV 2)) aNil)))))))
noncomputable def m__law_fr_low : FM := fnM false 5 b__law_fr_low
noncomputable def b__law_fr_drawn : SF := (sSeq (sAsg (eCall 2 m__law_pick (aCons (eV 0) (aCons (eLst (aCons (eC (.int 0)) (aCons (eC (.int 1)) (aCons (eC (.int 2)) (aCons (eC (.int 7)) (aCons (eCall 2 m__law_roll (aCons (eV 0) (aCons (eC (.int 30)) aNil))) (aCons (eCall 2 m__law_roll (aCons (eV 0) (aCons (eB2 oPow (eC (.int 10)) (eC (.int 9))) aNil))) (aCons (eCall 2 m__law_roll (aCons (eV 0) (aCons (eB2 oPow (eC (.int 10)) (eC (.int 60))) aNil))) aNil)))))))) aNil))) (tNm 1))
  (sSeq (sAsg (eB2 oAdd (eC (.int 1)) (eCall 2 m__law_pick (aCons (eV 0) (aCons (eLst (aCons (eC (.int 0)) (aCons (eC (.int 1)) (aCons (eC (.int 2)) (aCons (eC (.int 6)) (aCons (eCall 2 m__law_roll (aCons (eV 0) (aCons (eC (.int 30)) aNil))) (aCons (eCall 2 m__law_roll (aCons (eV 0) (aCons (eB2 oPow (eC (.int 10)) (eC (.int 9))) aNil))) (aCons (eCall 2 m__law_roll (aCons (eV 0) (aCons (eB2 oPow (eC (.int 10)) (eC (.int 59))) aNil))) aNil)))))))) aNil)))) (tNm 2))
  (sRet (eCall 2 m__law_fr_low (aCons (eIf (bE (eB2 oGt (eCall 2 m__law_roll (aCons (eV 0) (aCons (eC (.int 3)) aNil))) (eC (.int 0)))) (eV 1) (eB2 oSub (eC (.int 0)) (eV 1))) (aCons (eV 2) aNil))))))
noncomputable def m__law_fr_drawn : FM := fnM false 3 b__law_fr_drawn
noncomputable def b__law_fr_plus : SF := (sRet (eCall 2 m__law_fr_low (aCons (eB2 oAdd (eB2 oMul (eB2 oIx (eV 0) (eC (.int 0))) (eB2 oIx (eV 1) (eC (.int 1)))) (eB2 oMul (eB2 oIx (eV 1) (eC (.int 0))) (eB2 oIx (eV 0) (eC (.int 1))))) (aCons (eB2 oMul (eB2 oIx (eV 0) (eC (.int 1))) (eB2 oIx (eV 1) (eC (.int 1)))) aNil))))
noncomputable def m__law_fr_plus : FM := fnM false 2 b__law_fr_plus
noncomputable def b__law_fr_below : SF := (sRet (eB2 oLt (eB2 oMul (eB2 oIx (eV 0) (eC (.int 0))) (eB2 oIx (eV 1) (eC (.int 1)))) (eB2 oMul (eB2 oIx (eV 1) (eC (.int 0))) (eB2 oIx (eV 0) (eC (.int 1))))))
noncomputable def m__law_fr_below : FM := fnM false 2 b__law_fr_below
noncomputable def b__law_stretch : SF := (sSeq (sPar 1 2 (aCons (eCall 1 m__law_fr_drawn (aCons (eV 0) aNil)) (aCons (eCall 1 m__law_fr_drawn (aCons (eV 0) aNil)) aNil)))
  (sSeq (sAsg (eCall 2 m__law_roll (aCons (eV 0) (aCons (eC (.int 4)) aNil))) (tNm 3))
  (sSeq (sIf (bE (eB2 (oEq false) (eV 3) (eC (.int 0)))) (sAsg (eV 1) (tNm 2)) sNx)
  (sSeq (sIf (bE (eB2 (oEq false) (eV 3) (eC (.int 1)))) (sAsg (eCall 2 m__law_fr_plus (aCons (eV 1) (aCons (eTup (aCons (eC (.int 1)) (aCons (eB2 oAdd (eC (.int 1)) (eCall 2 m__law_roll (aCons (eV 0) (aCons (eB2 oPow (eC (.int 10)) (eC (.int 6))) aNil)))) aNil))) aNil))) (tNm 2)) sNx)
  (sSeq (sIf (bE (eB2 oGe (eBi oMax2 (aCons (eBi oAbs (aCons (eB2 oIx (eV 2) (eC (.int 0))) aNil)) (aCons (eB2 oIx (eV 2) (eC (.int 1))) aNil))) (eB2 oPow (eC (.int 10)) (eC (.int 60))))) (sAsg (eV 1) (tNm 2)) sNx)
  (sRet (eIf (bTru (eCall 2 m__law_fr_below (aCons (eV 2) (aCons (eV 1) aNil)))) (eTup (aCons (eV 2) (aCons (eV 1) aNil))) (eTup (aCons (eV 1) (aCons (eV 2) aNil))))))))))
noncomputable def m__law_stretch : FM := fnM false 4 b__law_stretch
noncomputable def w1__law_has_lesser : SF := (sIf (bE (eB2 oLe (eB2 oDiv (eB2 oSub (eB2 oAdd (eB2 oMul (eB2 oIx (eV 0) (eC (.int 0))) (eV 3)) (eB2 oIx (eV 0) (eC (.int 1)))) (eC (.int 1))) (eB2 oIx (eV 0) (eC (.int 1)))) (eB2 oDiv (eB2 oMul (eB2 oIx (eV 1) (eC (.int 0))) (eV 3)) (eB2 oIx (eV 1) (eC (.int 1)))))) (sRet (eC (.bool true))) sNx)
noncomputable def b__law_has_lesser : SF := (sSeq (sFor (iRg2 (eC (.int 1)) (eV 2)) (tNm 3) w1__law_has_lesser)
  (sRet (eC (.bool false))))
noncomputable def m__law_has_lesser : FM := fnM false 4 b__law_has_lesser
noncomputable def b__law_simplest__R0 : SF := sNever
noncomputable def m__law_simplest__R0 : FM := fnM false 8 b__law_simplest__R0
noncomputable def t1__law_simplest__R1 : BF := (bTru (eC (.bool true)))
noncomputable def w2__law_simplest__R1 : SF := (sSeq (sAsg (eB2 oDiv (eB2 oSub (eB2 oAdd (eB2 oIx (eV 0) (eC (.int 0))) (eB2 oIx (eV 0) (eC (.int 1)))) (eC (.int 1))) (eB2 oIx (eV 0) (eC (.int 1)))) (tNm 4))
  (sSeq (sIf (bE (eB2 oLe (eB2 oMul (eV 4) (eB2 oIx (eV 1) (eC (.int 1)))) (eB2 oIx (eV 1) (eC (.int 0))))) sBk sNx)
  (sSeq (sApp (eV 3) (eB2 oSub (eV 4) (eC (.int 1))))
  (sPar 0 1 (aCons (eTup (aCons (eB2 oIx (eV 1) (eC (.int 1))) (aCons (eB2 oSub (eB2 oIx (eV 1) (eC (.int 0))) (eB2 oMul (eB2 oSub (eV 4) (eC (.int 1))) (eB2 oIx (eV 1) (eC (.int 1))))) aNil))) (aCons (eTup (aCons (eB2 oIx (eV 0) (eC (.int 1))) (aCons (eB2 oSub (eB2 oIx (eV 0) (eC (.int 0))) (eB2 oMul (eB2 oSub (eV 4) (eC (.int 1))) (eB2 oIx (eV 0) (eC (.int 1))))) aNil))) aNil))))))
noncomputable def w3__law_simplest__R1 : SF := (sPar 5 6 (aCons (eB2 oAdd (eB2 oMul (eV 7) (eV 5)) (eV 6)) (aCons (eV 5) aNil)))
noncomputable def b__law_simplest__R1 : SF := (sSeq (sIf (bE (eChain oLe oLe (eB2 oIx (eV 0) (eC (.int 0))) (eC (.int 0)) (eB2 oIx (eV 1) (eC (.int 0))))) (sRet (eTup (aCons (eC (.int 0)) (aCons (eC (.int 1)) aNil)))) sNx)
  (sSeq (sIf (bE (eB2 oLt (eB2 oIx (eV 1) (eC (.int 0))) (eC (.int 0)))) (sSeq (sAsg (eCall 2 m__law_simplest__R0 (aCons (eTup (aCons (eB2 oSub (eC (.int 0)) (eB2 oIx (eV 1) (eC (.int 0)))) (aCons (eB2 oIx (eV 1) (eC (.int 1))) aNil))) (aCons (eTup (aCons (eB2 oSub (eC (.int 0)) (eB2 oIx (eV 0) (eC (.int 0)))) (aCons (eB2 oIx (eV 0) (eC (.int 1))) aNil))) aNil))) (tNm 2))
  (sRet (eTup (aCons (eB2 oSub (eC (.int 0)) (eB2 oIx (eV 2) (eC (.int 0)))) (aCons (eB2 oIx (eV 2) (eC (.int 1))) aNil))))) sNx)
  (sSeq (sAsg (eLstC aNil) (tNm 3))
  (sSeq (sWhile t1__law_simplest__R1 w2__law_simplest__R1 FUEL)
  (sSeq (sPar 5 6 (aCons (eV 4) (aCons (eC (.int 1)) aNil)))
  (sSeq (sFor (iSeq (eB1 oRevS (eV 3))) (tNm 7) w3__law_simplest__R1)
  (sRet (eCall 2 m__law_fr_low (aCons (eV 5) (aCons (eV 6) aNil))))))))))
noncomputable def m__law_simplest__R1 : FM := fnM false 8 b__law_simplest__R1
noncomputable def t1__law_simplest : BF := (bTru (eC (.bool true)))
noncomputable def w2__law_simplest : SF := (sSeq (sAsg (eB2 oDiv (eB2 oSub (eB2 oAdd (eB2 oIx (eV 0) (eC (.int 0))) (eB2 oIx (eV 0) (eC (.int 1)))) (eC (.int 1))) (eB2 oIx (eV 0) (eC (.int 1)))) (tNm 4))
  (sSeq (sIf (bE (eB2 oLe (eB2 oMul (eV 4) (eB2 oIx (eV 1) (eC (.int 1)))) (eB2 oIx (eV 1) (eC (.int 0))))) sBk sNx)
  (sSeq (sApp (eV 3) (eB2 oSub (eV 4) (eC (.int 1))))
  (sPar 0 1 (aCons (eTup (aCons (eB2 oIx (eV 1) (eC (.int 1))) (aCons (eB2 oSub (eB2 oIx (eV 1) (eC (.int 0))) (eB2 oMul (eB2 oSub (eV 4) (eC (.int 1))) (eB2 oIx (eV 1) (eC (.int 1))))) aNil))) (aCons (eTup (aCons (eB2 oIx (eV 0) (eC (.int 1))) (aCons (eB2 oSub (eB2 oIx (eV 0) (eC (.int 0))) (eB2 oMul (eB2 oSub (eV 4) (eC (.int 1))) (eB2 oIx (eV 0) (eC (.int 1))))) aNil))) aNil))))))
noncomputable def w3__law_simplest : SF := (sPar 5 6 (aCons (eB2 oAdd (eB2 oMul (eV 7) (eV 5)) (eV 6)) (aCons (eV 5) aNil)))
noncomputable def b__law_simplest : SF := (sSeq (sIf (bE (eChain oLe oLe (eB2 oIx (eV 0) (eC (.int 0))) (eC (.int 0)) (eB2 oIx (eV 1) (eC (.int 0))))) (sRet (eTup (aCons (eC (.int 0)) (aCons (eC (.int 1)) aNil)))) sNx)
  (sSeq (sIf (bE (eB2 oLt (eB2 oIx (eV 1) (eC (.int 0))) (eC (.int 0)))) (sSeq (sAsg (eCall 2 m__law_simplest__R1 (aCons (eTup (aCons (eB2 oSub (eC (.int 0)) (eB2 oIx (eV 1) (eC (.int 0)))) (aCons (eB2 oIx (eV 1) (eC (.int 1))) aNil))) (aCons (eTup (aCons (eB2 oSub (eC (.int 0)) (eB2 oIx (eV 0) (eC (.int 0)))) (aCons (eB2 oIx (eV 0) (eC (.int 1))) aNil))) aNil))) (tNm 2))
  (sRet (eTup (aCons (eB2 oSub (eC (.int 0)) (eB2 oIx (eV 2) (eC (.int 0)))) (aCons (eB2 oIx (eV 2) (eC (.int 1))) aNil))))) sNx)
  (sSeq (sAsg (eLstC aNil) (tNm 3))
  (sSeq (sWhile t1__law_simplest w2__law_simplest FUEL)
  (sSeq (sPar 5 6 (aCons (eV 4) (aCons (eC (.int 1)) aNil)))
  (sSeq (sFor (iSeq (eB1 oRevS (eV 3))) (tNm 7) w3__law_simplest)
  (sRet (eCall 2 m__law_fr_low (aCons (eV 5) (aCons (eV 6) aNil))))))))))
noncomputable def m__law_simplest : FM := fnM false 8 b__law_simplest
noncomputable def b__law_right : SF := (sSeq (sAsg (eCall 1 m__law_stretch (aCons (eV 0) aNil)) (tTp (lCons (tNm 1) (lCons (tNm 2) lNil))))
  (sSeq (sAsg (eCall 2 m_simplest (aCons (eV 1) (aCons (eV 2) aNil))) (tNm 3))
  (sSeq (sIf (bOr (bE (eB2 (oEq true) (eV 3) (eCall 2 m__law_simplest (aCons (eV 1) (aCons (eV 2) aNil))))) (bOr (bTru (eCall 2 m__law_fr_below (aCons (eV 3) (aCons (eV 1) aNil)))) (bTru (eCall 2 m__law_fr_below (aCons (eV 2) (aCons (eV 3) aNil)))))) (sRet (eC (.bool false))) sNx)
  (sSeq (sIf (bAnd (bE (eB2 oLt (eB2 oIx (eV 3) (eC (.int 1))) (eC (.int 300)))) (bTru (eCall 3 m__law_has_lesser (aCons (eV 1) (aCons (eV 2) (aCons (eB2 oIx (eV 3) (eC (.int 1))) aNil)))))) (sRet (eC (.bool false))) sNx)
  (sSeq (sPar 4 5 (aCons (eCall 1 m__law_fr_drawn (aCons (eV 0) aNil)) (aCons (eCall 1 m__law_fr_drawn (aCons (eV 0) aNil)) aNil)))
  (sSeq (sPar 4 5 (aCons (eTup (aCons (eBi oAbs (aCons (eB2 oIx (eV 4) (eC (.int 0))) aNil)) (aCons (eB2 oIx (eV 4) (eC (.int 1))) aNil))) (aCons (eTup (aCons (eBi oMax2 (aCons (eC (.int 1)) (aCons (eBi oAbs (aCons (eB2 oIx (eV 5) (eC (.int 0))) aNil)) aNil))) (aCons (eIf (bE (eB2 (oEq true) (eB2 oIx (eV 5) (eC (.int 0))) (eC (.int 0)))) (eB2 oIx (eV 5) (eC (.int 1))) (eC (.int 1))) aNil))) aNil)))
  (sSeq (sPar 6 7 (aCons (eB2 oMul (eB2 oIx (eV 4) (eC (.int 0))) (eB2 oIx (eV 5) (eC (.int 1)))) (aCons (eB2 oMul (eB2 oIx (eV 4) (eC (.int 1))) (eB2 oIx (eV 5) (eC (.int 0)))) aNil)))
  (sSeq (sIf (bE (eB2 (oEq true) (eCall 2 m_steps_for (aCons (eV 4) (aCons (eV 5) aNil))) (eB2 oDiv (eB2 oSub (eB2 oAdd (eV 6) (eV 7)) (eC (.int 1))) (eV 7)))) (sRet (eC (.bool false))) sNx)
  (sSeq (sAsg (eCall 2 m__law_roll (aCons (eV 0) (aCons (eC (.int 9)) aNil))) (tNm 8))
  (sSeq (sAsg (eCall 2 m__law_fr_low (aCons (eB2 oMul (eB2 oIx (eV 5) (eC (.int 0))) (eV 8)) (aCons (eB2 oIx (eV 5) (eC (.int 1))) aNil))) (tNm 9))
  (sRet (eOr (eB2 oGe (eBi oMaxV (aCons (eV 9) aNil)) (eB2 oPow (eC (.int 10)) (eC (.int 60)))) (eB2 (oEq false) (eCall 2 m_steps_for (aCons (eV 9) (aCons (eV 5) aNil))) (eV 8))))))))))))))
noncomputable def m__law_right : FM := fnM false 10 b__law_right
noncomputable def w1_law : SF := (sIf (bNot (bTru (eCall 1 m__law_right (aCons (eV 2) aNil)))) (sRet (eC (.bool false))) sNx)
noncomputable def w2_law : SF := (sSeq (sAsg (eCall 2 m__law_dice (aCons (eV 0) (aCons (eV 1) aNil))) (tNm 2))
  (sFor (iRg1 (eC (.int 8))) (tNm 3) w1_law))
noncomputable def b_law : SF := (sSeq (sFor (iRg1 (eBi oMax2 (aCons (eC (.int 1)) (aCons (eBi oMin2 (aCons (eC (.int 4)) (aCons (eBi oLen (aCons (eV 0) aNil)) aNil))) aNil)))) (tNm 1) w2_law)
  (sSeq (sAsg (eLst (aCons (eCall 2 m_simplest (aCons (eTup (aCons (eC (.int 3)) (aCons (eC (.int 10)) aNil))) (aCons (eTup (aCons (eC (.int 2)) (aCons (eC (.int 5)) aNil))) aNil))) (aCons (eCall 2 m_simplest (aCons (eTup (aCons (eB1 oNeg (eC (.int 7))) (aCons (eC (.int 2)) aNil))) (aCons (eTup (aCons (eB1 oNeg (eC (.int 2))) (aCons (eC (.int 1)) aNil))) aNil))) (aCons (eCall 2 m_simplest (aCons (eTup (aCons (eB1 oNeg (eC (.int 1))) (aCons (eC (.int 3)) aNil))) (aCons (eTup (aCons (eC (.int 5)) (aCons (eC (.int 1)) aNil))) aNil))) (aCons (eCall 2 m_simplest (aCons (eTup (aCons (eC (.int 5)) (aCons (eC (.int 7)) aNil))) (aCons (eTup (aCons (eC (.int 5)) (aCons (eC (.int 7)) aNil))) aNil))) aNil))))) (tNm 4))
  (sSeq (sAsg (eB2 oAdd (eV 4) (eLst (aCons (eCall 2 m_simplest (aCons (eTup (aCons (eC (.int 2)) (aCons (eC (.int 7)) aNil))) (aCons (eTup (aCons (eC (.int 3)) (aCons (eC (.int 7)) aNil))) aNil))) (aCons (eCall 2 m_simplest (aCons (eTup (aCons (eC (.int 311)) (aCons (eC (.int 100)) aNil))) (aCons (eTup (aCons (eC (.int 157)) (aCons (eC (.int 50)) aNil))) aNil))) (aCons (eCall 2 m_steps_for (aCons (eTup (aCons (eC (.int 1)) (aCons (eC (.int 1)) aNil))) (aCons (eTup (aCons (eC (.int 2)) (aCons (eC (.int 7)) aNil))) aNil))) (aCons (eCall 2 m_steps_for (aCons (eTup (aCons (eC (.int 0)) (aCons (eC (.int 1)) aNil))) (aCons (eTup (aCons (eC (.int 2)) (aCons (eC (.int 7)) aNil))) aNil))) aNil)))))) (tNm 4))
  (sRet (eB2 (oEq false) (eV 4) (eLst (aCons (eTup (aCons (eC (.int 1)) (aCons (eC (.int 3)) aNil))) (aCons (eTup (aCons (eB1 oNeg (eC (.int 2))) (aCons (eC (.int 1)) aNil))) (aCons (eTup (aCons (eC (.int 0)) (aCons (eC (.int 1)) aNil))) (aCons (eTup (aCons (eC (.int 5)) (aCons (eC (.int 7)) aNil))) (aCons (eTup (aCons (eC (.int 1)) (aCons (eC (.int 3)) aNil))) (aCons (eTup (aCons (eC (.int 25)) (aCons (eC (.int 8)) aNil))) (aCons (eC (.int 4)) (aCons (eC (.int 0)) aNil))))))))))))))
noncomputable def m_law : FM := fnM false 5 b_law
end MR
end
section
set_option Elab.async false
set_option linter.all false
set_option maxHeartbeats 1000000
set_option maxRecDepth 20000
set_option exponentiation.threshold 30000
namespace MR
open PySem PySem.Spec PyProof.Rows L2 VL MF
abbrev fr (p : Int × Int) : PyData := .tuple [.int p.1, .int p.2]
theorem small_pow {n : Nat} {k : Nat} (h : n < 10 ^ 60) (hk : 200 ≤ k) : n < 2 ^ k := by
  refine Nat.lt_of_lt_of_le h (Nat.le_trans (?_ : 10 ^ 60 ≤ 2 ^ 200) (Nat.pow_le_pow_right (by decide) hk))
  decide +kernel
theorem v_reduced (μ : Mu) (t b : Int) (hb : b ≠ 0) (h9 : b.natAbs < 2 ^ 8000) : m_reduced μ [.d (.int t), .d (.int b)] = some (.d (fr (L t b)), μ) := by
  have hg : 0 < Nat.gcd t.natAbs b.natAbs := Nat.gcd_pos_of_pos_right _ (by omega)
  have hl : Nat.gcd t.natAbs b.natAbs < 2 ^ 8000 := Nat.lt_of_le_of_lt (Nat.gcd_le_right _ (by omega)) h9
  have h1 : ∀ i, divOk i ((Nat.gcd t.natAbs b.natAbs : Nat) : Int) = true := fun i => divOk_of (b := 8000) (by omega) (by simpa using hl) (by decide)
  have h2 : ∀ i, divOk i (-((Nat.gcd t.natAbs b.natAbs : Nat) : Int)) = true := fun i => divOk_of (b := 8000) (by omega) (by simpa using hl) (by decide)
  by_cases c : b < 0
  · simp [m_reduced, b_reduced, fnM, c, h1, h2, L, fr]
  · simp [m_reduced, b_reduced, fnM, c, h1, h2, L, fr]
def isNum : PyData → Bool
  | .int i => decide (i.natAbs < 10 ^ 60)
  | _ => false
theorem v_is_number (μ : Mu) (p : PyData) : m_is_number μ [.d p] = some (.d (.bool (isNum p)), μ) := by
  cases p <;> simp [m_is_number, b_is_number, fnM, isaB, isNum]
  rename_i i
  by_cases c : -999999999999999999999999999999999999999999999999999999999999 ≤ i
  · simp [c]; omega
  · simp [c]; omega
def isFr : PyData → Bool
  | .tuple [.int t, .int b] => decide (t.natAbs < 10 ^ 60) && decide (b.natAbs < 10 ^ 60) && decide (0 < b) && decide (Nat.gcd t.natAbs b.natAbs = 1)
  | _ => false
theorem v_is_row (μ : Mu) (p : PyData) (n : Int) : m_is_row μ [.d (.int n), .d p] = some (.d (.bool (match p with | .tuple ds => decide ((ds.length : Int) = n) | _ => false)), μ) := by
  cases p <;> simp [m_is_row, b_is_row, fnM, isaB, PyData.eqv, PyData.plain, PyData.depth]
  rw [Bool.beq_eq_decide_eq]
theorem v_is_fraction (μ : Mu) (p : PyData) : m_is_fraction μ [.d p] = some (.d (.bool (isFr p)), μ) := by
  cases p with
  | tuple ds =>
    match ds with
    | [] => simp [m_is_fraction, b_is_fraction, fnM, v_is_row, isFr]
    | [a] => simp [m_is_fraction, b_is_fraction, fnM, v_is_row, isFr]
    | a :: b :: c :: r =>
      have : ¬ ((r.length : Int) + 1 + 1 + 1 = 2) := by omega
      simp [m_is_fraction, b_is_fraction, fnM, v_is_row, isFr, this]
    | [a, b] =>
      have e0 : ∀ x y : PyData, atI [x, y] 0 = some x := fun _ _ => rfl
      have e1 : ∀ x y : PyData, atI [x, y] 1 = some y := fun _ _ => rfl
      by_cases ha : isNum a = true
      · by_cases hb : isNum b = true
        · cases a <;> try (cases ha)
          rename_i t
          cases b <;> try (cases hb)
          rename_i u
          have ha' : t.natAbs < 10 ^ 60 := by simpa [isNum] using ha
          have hb' : u.natAbs < 10 ^ 60 := by simpa [isNum] using hb
          by_cases c : 0 < u
          · simp [m_is_fraction, b_is_fraction, fnM, v_is_row, v_is_number, isFr, e0, e1, ha, hb, c, PyData.eqv, PyData.plain, PyData.depth, ha', hb']
            by_cases hg : Nat.gcd t.natAbs u.natAbs = 1
            · simp [hg]
            · have : ¬ (((Nat.gcd t.natAbs u.natAbs : Nat) : Int) = 1) := by omega
              simp [hg, this]
          · simp [m_is_fraction, b_is_fraction, fnM, v_is_row, v_is_number, isFr, e0, e1, ha, hb, c, PyData.eqv, PyData.plain, PyData.depth, ha', hb']
        · have : isFr (.tuple [a, b]) = false := by
            cases a <;> try rfl
            cases b <;> try rfl
            simp [isNum] at hb ha
            simp [isFr]
            omega
          simp [m_is_fraction, b_is_fraction, fnM, v_is_row, v_is_number, e0, e1, ha, hb, this]
      · have : isFr (.tuple [a, b]) = false := by
          cases a <;> try rfl
          cases b <;> try rfl
          simp [isNum] at ha
          simp [isFr]
          omega
        simp [m_is_fraction, b_is_fraction, fnM, v_is_row, v_is_number, e0, e1, ha, this]
  | _ => simp [m_is_fraction, b_is_fraction, fnM, v_is_row, isFr]

structure Bd (n : Nat) (p : Int × Int) : Prop where
  pos : 0 < p.2
  top : p.1.natAbs < 2 ^ n
  bot : p.2.natAbs < 2 ^ n
theorem Bd.mono {n m : Nat} {p : Int × Int} (h : Bd n p) (l : n ≤ m) : Bd m p :=
  ⟨h.pos, Nat.lt_of_lt_of_le h.top (Nat.pow_le_pow_right (by decide) l), Nat.lt_of_lt_of_le h.bot (Nat.pow_le_pow_right (by decide) l)⟩
theorem lt_mul {i j : Int} {a b : Nat} (ha : i.natAbs < 2 ^ a) (hb : j.natAbs < 2 ^ b) : (i * j).natAbs < 2 ^ (a + b) := by
  rw [Int.natAbs_mul, Nat.pow_add]; exact Nat.mul_lt_mul'' ha hb
theorem lt_add {i j : Int} {a : Nat} (ha : i.natAbs < 2 ^ a) (hb : j.natAbs < 2 ^ a) : (i + j).natAbs < 2 ^ (a + 1) := by
  rw [Nat.pow_succ]; omega
theorem lt_sub {i j : Int} {a : Nat} (ha : i.natAbs < 2 ^ a) (hb : j.natAbs < 2 ^ a) : (i - j).natAbs < 2 ^ (a + 1) := by
  rw [Nat.pow_succ]; omega
theorem lt_up {x a b : Nat} (h : x < 2 ^ a) (l : a ≤ b) : x < 2 ^ b := Nat.lt_of_lt_of_le h (Nat.pow_le_pow_right (by decide) l)
def addF (p q : Int × Int) : Int × Int := L (p.1 * q.2 + q.1 * p.2) (p.2 * q.2)
theorem L_Bd {n : Nat} {t b : Int} (hb : b ≠ 0) (ht : t.natAbs < 2 ^ n) (hn : b.natAbs < 2 ^ n) : Bd n (L t b) :=
  ⟨(L_isF t hb).1, Nat.lt_of_le_of_lt (L_le1 t hb) ht, Nat.lt_of_le_of_lt (L_le2 t hb) hn⟩
section
variable {p q : Int × Int} {n m : Nat}
theorem pos_mul (hp : 0 < p.2) (hq : 0 < q.2) : p.2 * q.2 ≠ 0 := Int.mul_ne_zero (by omega) (by omega)
theorem at0 (x y : PyData) : atI [x, y] 0 = some x := rfl
theorem at1 (x y : PyData) : atI [x, y] 1 = some y := rfl
def ordF (p q : Int × Int) : Int := if p.1 * q.2 < q.1 * p.2 then -1 else if q.1 * p.2 < p.1 * q.2 then 1 else 0
theorem v_order_of (μ : Mu) (hp : Bd n p) (hq : Bd n q) (hn : n ≤ 3900) : m_order_of μ [.d (fr p), .d (fr q)] = some (.d (.int (ordF p q)), μ) := by
  have h1 : mulOk p.1 q.2 = true := mulOk_w hp.top hq.bot (by omega)
  have h2 : mulOk q.1 p.2 = true := mulOk_w hq.top hp.bot (by omega)
  by_cases c : p.1 * q.2 < q.1 * p.2
  · simp [m_order_of, b_order_of, fnM, at0, at1, h1, h2, ordF, c]
  · by_cases c2 : q.1 * p.2 < p.1 * q.2
    · simp [m_order_of, b_order_of, fnM, at0, at1, h1, h2, ordF, c, c2]
    · simp [m_order_of, b_order_of, fnM, at0, at1, h1, h2, ordF, c, c2]
theorem v_whole_of (μ : Mu) (hp : Bd n p) (hn : n ≤ 3900) : m_whole_of μ [.d (fr p)] = some (.d (.int (p.1.fdiv p.2)), μ) := by
  have hpos := hp.pos
  have h1 : divOk p.1 p.2 = true := divOk_of (by omega) hp.bot (by omega)
  simp [m_whole_of, b_whole_of, fnM, at0, at1, h1]
theorem addF_Bd (hp : Bd n p) (hq : Bd m q) : Bd (n + m + 1) (addF p q) :=
  L_Bd (pos_mul hp.pos hq.pos) (lt_add (lt_mul hp.top hq.bot) (by rw [Nat.add_comm]; exact lt_mul hq.top hp.bot)) (lt_up (lt_mul hp.bot hq.bot) (by omega))
end
structure Fr (p : Int × Int) : Prop where
  f : IsF p
  top : p.1.natAbs < 10 ^ 60
  bot : p.2.natAbs < 10 ^ 60
theorem Fr.bd {p : Int × Int} (h : Fr p) : Bd 200 p := ⟨h.f.1, small_pow h.top (by decide), small_pow h.bot (by decide)⟩
theorem Fr.is {p : Int × Int} (h : Fr p) : isFr (fr p) = true := by
  have := h.f.1; have := h.f.2; have := h.top; have := h.bot
  simp [isFr, *]
section
variable {p q : Int × Int}
theorem v_check_fraction (μ : Mu) (h : Fr p) : m_check_fraction μ [.d (fr p)] = some (.d .none, μ) := by
  have := v_is_fraction μ (fr p)
  rw [h.is] at this
  simp [m_check_fraction, b_check_fraction, fnM, this]
theorem v_check_both (μ : Mu) (h : Fr p) (h2 : Fr q) : m_check_both μ [.d (fr p), .d (fr q)] = some (.d .none, μ) := by
  simp [m_check_both, b_check_both, fnM, v_check_fraction μ h, v_check_fraction μ h2]
theorem fdiv_le {a b : Int} (hb : 0 < b) : (a.fdiv b).natAbs ≤ a.natAbs := by
  rw [Int.fdiv_eq_ediv_of_nonneg _ (by omega)]
  exact Int.natAbs_ediv_le_natAbs a b
theorem eqv_fr (p q : Int × Int) : PyData.eqv (fr p) (fr q) = decide (p = q) := by
  simp [PyData.eqv, PyData.eqvAll, Prod.ext_iff, Bool.beq_eq_decide_eq, Bool.decide_and]
theorem plain_fr (p : Int × Int) : (fr p).plain = true := by simp [PyData.plain, PyData.plainAll]
theorem depth_fr (p : Int × Int) : (fr p).depth = 1 := by simp [PyData.depth, PyData.depthAll]
end
end MR
end
section
set_option Elab.async false
set_option linter.all false
set_option maxHeartbeats 1000000
set_option exponentiation.threshold 30000
namespace MR
open PySem PySem.Spec PyProof.Rows L2 VL MF
/-! ### the dice -/
def Dice (μ : Mu) (n : Nat) : Prop := ∃ a b c : Int, μ[n]? = some [.int a, .int b, .int c]
def DU (μ : Mu) (n : Nat) (μ' : Mu) : Prop := ∃ a b c : Int, μ' = μ.set n [.int a, .int b, .int c]
theorem DU.dice {μ μ' : Mu} {n : Nat} (d : Dice μ n) (h : DU μ n μ') : Dice μ' n := by
  obtain ⟨a, b, c, h1⟩ := d
  obtain ⟨a', b', c', rfl⟩ := h
  exact ⟨a', b', c', List.getElem?_set_self (List.getElem?_eq_some_iff.mp h1).1⟩
theorem DU.trans {μ μ1 μ2 : Mu} {n : Nat} (h : DU μ n μ1) (h2 : DU μ1 n μ2) : DU μ n μ2 := by
  obtain ⟨a, b, c, rfl⟩ := h
  obtain ⟨a', b', c', rfl⟩ := h2
  exact ⟨a', b', c', by rw [List.set_set]⟩
theorem DU.len {μ μ' : Mu} {n : Nat} (h : DU μ n μ') : μ'.length = μ.length := by
  obtain ⟨a, b, c, rfl⟩ := h
  simp
theorem at30 (x y z : PyData) : atI [x, y, z] 0 = some x := rfl
theorem at31 (x y z : PyData) : atI [x, y, z] 1 = some y := rfl
theorem at32 (x y z : PyData) : atI [x, y, z] 2 = some z := rfl
theorem ix30 : ixN 3 0 = some 0 := rfl
theorem ix32 : ixN 3 2 = some 2 := rfl
theorem mul_lit1 (c : Int) : mulOk 71828177 c = true := mulOk_l (by decide)
theorem mul_lit2 (c : Int) : mulOk 89 c = true := mulOk_l (by decide)
theorem mul_lit3 (c : Int) : mulOk c 8128163 = true := mulOk_r (by decide)
theorem div_lit (c : Int) : divOk c 65579 = true := divOk_of (b := 20) (by decide) (by decide) (by decide)
theorem take_same (μ : Mu) (n : Nat) (l : List PyData) : (μ.set n l).take μ.length = μ.set n l := List.take_of_length_le (by simp)
theorem v_roll {μ : Mu} {n : Nat} (d : Dice μ n) {most : Int} (h0 : 0 < most) (h9 : most.natAbs < 2 ^ 8000) : ∃ r μ', 0 ≤ r ∧ r < most ∧ DU μ n μ' ∧ m__law_roll μ [.loc n, .d (.int most)] = some (.d (.int r), μ') := by
  obtain ⟨a, b, c, hd⟩ := d
  have hn : n < μ.length := (List.getElem?_eq_some_iff.mp hd).1
  have hd2 : μ[n] = [.int a, .int b, .int c] := (List.getElem?_eq_some_iff.mp hd).2
  have hm : ∀ x : Int, 0 ≤ x.fmod most ∧ x.fmod most < most := fun x => ⟨Int.fmod_nonneg_of_pos x h0, Int.fmod_lt_of_pos x h0⟩
  have hne : most ≠ 0 := by omega
  have hdv : ∀ x, divOk x most = true := fun x => divOk_of (b := 8000) hne h9 (by decide)
  by_cases c0 : 0 < a
  · refine ⟨a.fmod most, μ.set n [.int (a.fdiv most), .int b, .int c], (hm a).1, (hm a).2, ⟨_, _, _, rfl⟩, ?_⟩
    simp [m__law_roll, b__law_roll, fnM, hd2, at30, c0, hne, hdv, ix30, hn, take_same]
  · have q1 : ∀ x : Int, 0 ≤ x.fmod 2305843009213693421 ∧ x.fmod 2305843009213693421 < 2305843009213693421 := fun x => ⟨Int.fmod_nonneg_of_pos x (by decide), Int.fmod_lt_of_pos x (by decide)⟩
    have hsq : ∀ x : Int, mulOk (x.fmod 2305843009213693421) (x.fmod 2305843009213693421) = true := fun x => mulOk_l (by have := q1 x; omega)
    let one := (b + 71828177 * (c + 1)).fmod 2305843009213693421
    refine ⟨(((one * one + 89 * (c + 1)).fmod 2305843009213693381 * 8128163 + one).fdiv 65579).fmod most, μ.set n [.int a, .int b, .int (c + 1)], (hm _).1, (hm _).2, ⟨_, _, _, rfl⟩, ?_⟩
    simp [m__law_roll, b__law_roll, fnM, hd2, at30, at31, at32, c0, hne, hdv, ix32, hn, mul_lit1, mul_lit2, mul_lit3, div_lit, hsq, take_same, one]
theorem atI_get {ds : List PyData} {r : Int} (h0 : 0 ≤ r) (h1 : r < ds.length) : ∃ d, d ∈ ds ∧ atI ds r = some d := by
  obtain ⟨k, rfl⟩ := Int.eq_ofNat_of_zero_le h0
  have hl : k < ds.length := by omega
  exact ⟨ds[k], List.getElem_mem hl, atI_nat (by simp [hl])⟩
theorem v_pick {μ : Mu} {n : Nat} (d : Dice μ n) {ds : List PyData} (h0 : ds ≠ []) (h9 : ds.length ≤ 1000) : ∃ p μ', p ∈ ds ∧ DU μ n μ' ∧ m__law_pick μ [.loc n, .d (.list ds)] = some (.d p, μ') := by
  have hl : 0 < ds.length := List.length_pos_iff.mpr h0
  obtain ⟨r, μ', r0, r1, du, e⟩ := v_roll d (most := ds.length) (by omega) (Nat.lt_of_le_of_lt (by simpa using h9) (by decide +kernel : 1000 < 2 ^ 8000))
  obtain ⟨p, hp, ep⟩ := atI_get r0 r1
  refine ⟨p, μ', hp, du, ?_⟩
  have := du.len
  simp [m__law_pick, b__law_pick, fnM, e, ep, ← this]
/-! ### the law's own lowest terms -/
theorem euclid (t b : Vw) (μ : Mu) : ∀ (n : Nat) (y x : Int), 0 ≤ x → 0 ≤ y → y < n → whileM t1__law_fr_low w2__law_fr_low n [some t, some b, some (.d (.int x)), some (.d (.int y)), none] μ =
    some (.nx [some t, some b, some (.d (.int (Nat.gcd x.natAbs y.natAbs : Nat))), some (.d (.int 0)), none] μ)
  | 0, y, x, _, h, h2 => by omega
  | n + 1, y, x, hx, hy, h => by
    by_cases c : y = 0
    · subst c
      have e1 : ((x.natAbs : Nat) : Int) = x := by omega
      have h1 : t1__law_fr_low [some t, some b, some (.d (.int x)), some (.d (.int 0)), none] μ = some (false, μ) := by
        simp [t1__law_fr_low, PyData.eqv, PyData.plain, PyData.depth]
      simp only [whileM, h1]
      simp [e1]
    · have hp : 0 < y := by omega
      have h0 := Int.fmod_nonneg_of_pos x hp
      have h1 := Int.fmod_lt_of_pos x hp
      have ih := euclid t b μ n (x.fmod y) y hy h0 (by omega)
      have eg : Nat.gcd y.natAbs (x.fmod y).natAbs = Nat.gcd x.natAbs y.natAbs := by
        rw [Int.fmod_eq_emod_of_nonneg _ hy, Int.natAbs_emod_of_nonneg hx, Nat.gcd_comm x.natAbs y.natAbs, Nat.gcd_rec y.natAbs x.natAbs]
        exact Nat.gcd_comm _ _
      rw [eg] at ih
      have c2 : (y == 0) = false := by simpa using c
      have h2 : t1__law_fr_low [some t, some b, some (.d (.int x)), some (.d (.int y)), none] μ = some (true, μ) := by
        simp [t1__law_fr_low, PyData.eqv, PyData.plain, PyData.depth, c2]
      have h3 : w2__law_fr_low [some t, some b, some (.d (.int x)), some (.d (.int y)), none] μ = some (.nx [some t, some b, some (.d (.int y)), some (.d (.int (x.fmod y))), none] μ) := by
        simp [w2__law_fr_low, c]
      simp only [whileM, h2, h3, ih]
theorem v_fr_low (μ : Mu) (t b : Int) (hb : b ≠ 0) (h9 : b.natAbs < 2 ^ 8000) : m__law_fr_low μ [.d (.int t), .d (.int b)] = some (.d (fr (L t b)), μ) := by
  have hg : 0 < Nat.gcd t.natAbs b.natAbs := Nat.gcd_pos_of_pos_right _ (by omega)
  have hl : Nat.gcd t.natAbs b.natAbs < 2 ^ 8000 := Nat.lt_of_le_of_lt (Nat.gcd_le_right _ (by omega)) h9
  have h1 : ∀ i, divOk i ((Nat.gcd t.natAbs b.natAbs : Nat) : Int) = true := fun i => divOk_of (b := 8000) (by omega) (by simpa using hl) (by decide)
  have ab : ∀ x : Int, (if x < 0 then -x else x) = ((x.natAbs : Nat) : Int) := fun x => by split <;> omega
  have hf : ((b.natAbs : Nat) : Int) < ((FUEL : Nat) : Int) := by
    have : (2 : Nat) ^ 8000 < FUEL := by unfold FUEL; exact Nat.pow_lt_pow_right (by decide) (by decide)
    omega
  have e := euclid (.d (.int t)) (.d (.int b)) μ FUEL (b.natAbs : Int) (t.natAbs : Int) (by omega) (by omega) hf
  rw [Int.natAbs_natCast, Int.natAbs_natCast] at e
  have m1 : ∀ x, mulOk 1 x = true := fun x => mulOk_l (by decide)
  have m2 : ∀ x, mulOk (-1) x = true := fun x => mulOk_l (by decide)
  by_cases c : b < 0
  · have c' : ¬ 0 < b := by omega
    rw [show ((b.natAbs : Nat) : Int) = -b by omega] at e
    have neg : ∀ x : Int, (-x).fdiv ((Nat.gcd t.natAbs b.natAbs : Nat) : Int) = x.fdiv (-((Nat.gcd t.natAbs b.natAbs : Nat) : Int)) := fun x => by
      have := Int.neg_fdiv_neg (-x) ((Nat.gcd t.natAbs b.natAbs : Nat) : Int)
      rw [Int.neg_neg] at this
      exact this.symm
    simp [m__law_fr_low, b__law_fr_low, fnM, sWhile, ab, e, c, c', h1, m1, m2, L, fr, neg]
  · have c' : 0 < b := by omega
    rw [show ((b.natAbs : Nat) : Int) = b by omega] at e
    simp [m__law_fr_low, b__law_fr_low, fnM, sWhile, ab, e, c, c', h1, m1, m2, L, fr]
end MR
end
section
set_option Elab.async false
set_option linter.all false
set_option maxHeartbeats 1000000
set_option maxRecDepth 20000
set_option exponentiation.threshold 30000
namespace MR
open PySem PySem.Spec PyProof.Rows L2 VL MF
theorem srcOk_none (all : List PyData) (μ : Mu) : srcOk none all μ = True := eq_true fun n h => by cases h
theorem forM_run {t : TF} {body : SF} {all : List PyData} (I : List PyData → Rho → Mu → Prop) (step : ∀ d ds ρ μ, I (d :: ds) ρ μ → ∃ ρ1 ρ2 μ2, t (.d d) ρ = some ρ1 ∧ body ρ1 μ = some (.nx ρ2 μ2) ∧ I ds ρ2 μ2) :
    ∀ ds ρ μ, I ds ρ μ → ∃ ρ' μ', VL.forM t body none all ds ρ μ = some (.nx ρ' μ') ∧ I [] ρ' μ'
  | [], ρ, μ, h => ⟨ρ, μ, by simp [VL.forM, srcOk_none], h⟩
  | d :: ds, ρ, μ, h => by
    obtain ⟨ρ1, ρ2, μ2, e1, e2, h2⟩ := step d ds ρ μ h
    obtain ⟨ρ', μ', e3, h3⟩ := forM_run (all := all) I step ds ρ2 μ2 h2
    exact ⟨ρ', μ', by simp [VL.forM, srcOk_none, e1, e2, e3], h3⟩
theorem v_fr_drawn {μ : Mu} {n : Nat} (d : Dice μ n) : ∃ p μ', m__law_fr_drawn μ [.loc n] = some (.d (fr p), μ') ∧ DU μ n μ' ∧ Fr p := by
  have lim : ∀ x : Int, x.natAbs ≤ 10 ^ 60 → x.natAbs < 2 ^ 8000 := fun x h => Nat.lt_of_le_of_lt h (by decide +kernel)
  obtain ⟨r1, μ1, a1, b1, u1, e1⟩ := v_roll d (most := 30) (by decide) (lim _ (by decide))
  have d1 := u1.dice d
  obtain ⟨r2, μ2, a2, b2, u2, e2⟩ := v_roll d1 (most := 1000000000) (by decide) (lim _ (by decide))
  have d2 := u2.dice d1
  obtain ⟨r3, μ3, a3, b3, u3, e3⟩ := v_roll d2 (most := 1000000000000000000000000000000000000000000000000000000000000) (by decide) (lim _ (by decide))
  have d3 := u3.dice d2
  obtain ⟨p, μ4, hp, u4, e4⟩ := v_pick d3 (ds := [.int 0, .int 1, .int 2, .int 7, .int r1, .int r2, .int r3]) (by simp) (by simp)
  have d4 := u4.dice d3
  obtain ⟨t, rfl, ht0, ht1⟩ : ∃ t, p = .int t ∧ 0 ≤ t ∧ t < 10 ^ 60 := by
    simp at hp
    rcases hp with rfl | rfl | rfl | rfl | rfl | rfl | rfl
    all_goals refine ⟨_, rfl, ?_, ?_⟩ <;> omega
  obtain ⟨r5, μ5, a5, b5, u5, e5⟩ := v_roll d4 (most := 30) (by decide) (lim _ (by decide))
  have d5 := u5.dice d4
  obtain ⟨r6, μ6, a6, b6, u6, e6⟩ := v_roll d5 (most := 1000000000) (by decide) (lim _ (by decide))
  have d6 := u6.dice d5
  obtain ⟨r7, μ7, a7, b7, u7, e7⟩ := v_roll d6 (most := 100000000000000000000000000000000000000000000000000000000000) (by decide) (lim _ (by decide))
  have d7 := u7.dice d6
  obtain ⟨q, μ8, hq, u8, e8⟩ := v_pick d7 (ds := [.int 0, .int 1, .int 2, .int 6, .int r5, .int r6, .int r7]) (by simp) (by simp)
  have d8 := u8.dice d7
  obtain ⟨b, rfl, hb0, hb1⟩ : ∃ t, q = .int t ∧ 0 ≤ t ∧ t < 10 ^ 59 := by
    simp at hq
    rcases hq with rfl | rfl | rfl | rfl | rfl | rfl | rfl
    all_goals refine ⟨_, rfl, ?_, ?_⟩ <;> omega
  obtain ⟨r9, μ9, a9, b9, u9, e9⟩ := v_roll d8 (most := 3) (by decide) (lim _ (by decide))
  have uu := ((((((((u1.trans u2).trans u3).trans u4).trans u5).trans u6).trans u7).trans u8).trans u9)
  have hl := uu.len
  have hb : (1 + b) ≠ 0 := by omega
  have frL : ∀ x : Int, x.natAbs < 10 ^ 60 → Fr (L x (1 + b)) := fun x hx => ⟨L_isF x hb, Nat.lt_of_le_of_lt (L_le1 x hb) hx, Nat.lt_of_le_of_lt (L_le2 x hb) (by omega)⟩
  by_cases c : 0 < r9
  · refine ⟨L t (1 + b), μ9, ?_, uu, frL t (by omega)⟩
    have := v_fr_low μ9 t (1 + b) hb (lim _ (by omega))
    simp [m__law_fr_drawn, b__law_fr_drawn, fnM, e1, e2, e3, e4, e5, e6, e7, e8, e9, c, this, ← hl]
  · refine ⟨L (-t) (1 + b), μ9, ?_, uu, frL (-t) (by omega)⟩
    have := v_fr_low μ9 (-t) (1 + b) hb (lim _ (by omega))
    simp [m__law_fr_drawn, b__law_fr_drawn, fnM, e1, e2, e3, e4, e5, e6, e7, e8, e9, c, this, ← hl]
section
variable {p q : Int × Int} {n m : Nat}
theorem v_law_plus (μ : Mu) (hp : Bd n p) (hq : Bd m q) (hn : n + m ≤ 7900) : m__law_fr_plus μ [.d (fr p), .d (fr q)] = some (.d (fr (addF p q)), μ) := by
  have h1 : mulOk p.1 q.2 = true := mulOk_w hp.top hq.bot (by omega)
  have h2 : mulOk q.1 p.2 = true := mulOk_w hq.top hp.bot (by omega)
  have h3 : mulOk p.2 q.2 = true := mulOk_w hp.bot hq.bot (by omega)
  have h4 := v_fr_low μ (p.1 * q.2 + q.1 * p.2) (p.2 * q.2) (pos_mul hp.pos hq.pos) (lt_up (lt_mul hp.bot hq.bot) (by omega))
  simp [m__law_fr_plus, b__law_fr_plus, fnM, at0, at1, h1, h2, h3, h4, addF]
theorem v_law_below (μ : Mu) (hp : Bd n p) (hq : Bd m q) (hn : n + m ≤ 7900) : m__law_fr_below μ [.d (fr p), .d (fr q)] = some (.d (.bool (decide (p.1 * q.2 < q.1 * p.2))), μ) := by
  have h1 : mulOk p.1 q.2 = true := mulOk_w hp.top hq.bot (by omega)
  have h2 : mulOk q.1 p.2 = true := mulOk_w hq.top hp.bot (by omega)
  simp [m__law_fr_below, b__law_fr_below, fnM, at0, at1, h1, h2]
end
end MR
end
section
set_option Elab.async false
set_option linter.all false
set_option maxHeartbeats 1000000
set_option maxRecDepth 20000
set_option exponentiation.threshold 30000
namespace MR
open PySem PySem.Spec PyProof.Rows L2 VL MF
abbrev nf (a b : Nat) : PyData := fr ((a : Int), (b : Int))
theorem fdiv_nat (a b : Nat) : ((a : Int).fdiv (b : Int)) = ((a / b : Nat) : Int) := by
  rw [Int.fdiv_eq_ediv_of_nonneg _ (Int.natCast_nonneg b)]
  exact (Int.natCast_ediv a b).symm
/-- how great the numbers are -/
def Sm (x : Nat) : Prop := x < 2 ^ 210
theorem bd_nat {a b : Nat} (hb : 0 < b) (sa : Sm a) (sb : Sm b) : Bd 210 ((a : Int), (b : Int)) := ⟨by show 0 < (b : Int); omega, by simpa [Sm] using sa, by simpa [Sm] using sb⟩
theorem sm_mul {x y : Nat} (hx : Sm x) (hy : Sm y) : mulOk (x : Int) (y : Int) = true := mulOk_w (a := 210) (b := 210) (by simpa [Sm] using hx) (by simpa [Sm] using hy) (by decide)
theorem sm_div {x : Nat} (h0 : 0 < x) (hx : Sm x) (i : Int) : divOk i (x : Int) = true := divOk_of (b := 210) (by omega) (by simpa [Sm] using hx) (by decide)
theorem vn_whole (μ : Mu) {a b : Nat} (hb : 0 < b) (sa : Sm a) (sb : Sm b) : m_whole_of μ [.d (nf a b)] = some (.d (.int ((a / b : Nat) : Int)), μ) := by
  have := v_whole_of μ (bd_nat hb sa sb) (by decide)
  rw [fdiv_nat] at this
  exact this
theorem sm_le {x y : Nat} (h : Sm y) (l : x ≤ y) : Sm x := Nat.lt_of_le_of_lt l h
theorem vn_rest (μ : Mu) {c d : Nat} (hd : 0 < d) (sc : Sm c) (sd : Sm d) (hg : Nat.gcd c d = 1) : m_rest_of μ [.d (nf c d)] = some (.d (nf (c % d) d), μ) := by
  have h1 := vn_whole μ hd sc sd
  have h2 : mulOk ((c / d : Nat) : Int) (d : Int) = true := sm_mul (sm_le sc (Nat.div_le_self c d)) sd
  have e : (c : Int) - ((c / d : Nat) : Int) * (d : Int) = ((c % d : Nat) : Int) := by
    have := Nat.div_add_mod c d
    have k : ((d * (c / d) + c % d : Nat) : Int) = (c : Int) := by rw [this]
    rw [Int.natCast_add, Int.natCast_mul] at k
    rw [Int.mul_comm]; omega
  have h4 := v_reduced μ ((c % d : Nat) : Int) (d : Int) (by omega) (lt_up (show (d : Int).natAbs < 2 ^ 210 by simpa [Sm] using sd) (by decide))
  have eL : L ((c % d : Nat) : Int) (d : Int) = (((c % d : Nat) : Int), (d : Int)) := L_of (p := (((c % d : Nat) : Int), (d : Int))) ⟨by show 0 < (d : Int); omega, by
    show Nat.gcd (c % d) d = 1
    rw [Nat.gcd_comm]
    exact gcd_mod hg⟩
  rw [eL] at h4
  generalize c / d = q at *
  generalize c % d = r at *
  unfold nf at h1 ⊢
  simp [m_rest_of, b_rest_of, fnM, h1, at0, at1, h2, e, h4]
theorem vn_turned (μ : Mu) (a b : Nat) : m_turned_over μ [.d (nf a b)] = some (.d (nf b a), μ) := by
  simp [m_turned_over, b_turned_over, fnM, at0, at1]
theorem sx_sm {a b c d : Nat} (h : Sx a b c d) (sa : Sm a) (sb : Sm b) (sc : Sm c) (sd : Sm d) : Sm (c % d) ∧ Sm (a % b) := ⟨sm_le sc (Nat.mod_le c d), sm_le sa (Nat.mod_le a b)⟩
/-- where the way down ends -/
theorem cf_end : ∀ (n a b c d : Nat), Sx a b c d → b + d ≤ n → Sm a → Sm b → Sm c → Sm d → 0 < (cf n a b c d).2.2 ∧ Sm (cf n a b c d).2.1 ∧ Sm (cf n a b c d).2.2
  | 0, a, b, c, d, h, hn, _, _, _, _ => by have := h.b0; omega
  | n + 1, a, b, c, d, h, hn, sa, sb, sc, sd => by
    by_cases hg : 1 < b ∧ a / b = c / d
    · have hs := h.step hg.1 hg.2
      have l1 := Nat.mod_lt c h.d0
      have l2 := Nat.mod_lt a h.b0
      obtain ⟨m1, m2⟩ := sx_sm h sa sb sc sd
      have ih := cf_end n d (c % d) b (a % b) hs (by omega) sd m1 sb m2
      simp only [cf, if_pos hg]
      exact ih
    · simp only [cf, if_neg hg]
      exact ⟨h.b0, sa, sb⟩
/-- the program's way down -/
theorem prog_down (μ : Mu) : ∀ (n a b c d : Nat), Sx a b c d → b + d ≤ n → Sm a → Sm b → Sm c → Sm d → ∀ (f : Nat), n < f → ∀ (acc : List PyData), acc.length + (cf n a b c d).1.length ≤ 900000 →
    ∃ hi, whileM t1_simplest_above w2_simplest_above f [some (.d (nf a b)), some (.d (nf c d)), some (.loc μ.length), none, none, none] (μ ++ [acc]) =
      some (.nx [some (.d (nf (cf n a b c d).2.1 (cf n a b c d).2.2)), hi, some (.loc μ.length), none, none, none] (μ ++ [acc ++ (cf n a b c d).1.map fun (q : Nat) => PyData.int (q : Int)]))
  | 0, a, b, c, d, h, hn, _, _, _, _, _, _, _, _ => by have := h.b0; omega
  | n + 1, a, b, c, d, h, hn, sa, sb, sc, sd, 0, hf, _, _ => by omega
  | n + 1, a, b, c, d, h, hn, sa, sb, sc, sd, f + 1, hf, acc, hl => by
    have w1 := vn_whole (μ ++ [acc]) h.b0 sa sb
    have w2 := vn_whole (μ ++ [acc]) h.d0 sc sd
    by_cases hg : 1 < b ∧ a / b = c / d
    · have hs := h.step hg.1 hg.2
      have l1 := Nat.mod_lt c h.d0
      have l2 := Nat.mod_lt a h.b0
      obtain ⟨m1, m2⟩ := sx_sm h sa sb sc sd
      simp only [cf, if_pos hg] at hl ⊢
      rw [List.length_cons] at hl
      obtain ⟨hi, ih⟩ := prog_down μ n d (c % d) b (a % b) hs (by omega) sd m1 sb m2 f (by omega) (acc ++ [.int ((a / b : Nat) : Int)]) (by rw [List.length_append, List.length_singleton]; omega)
      refine ⟨hi, ?_⟩
      have r1 := vn_rest (μ ++ [acc ++ [.int ((a / b : Nat) : Int)]]) h.d0 sc sd h.g2
      have r2 := vn_rest (μ ++ [acc ++ [.int ((a / b : Nat) : Int)]]) h.b0 sa sb h.g1
      have o1 := vn_turned (μ ++ [acc ++ [.int ((a / b : Nat) : Int)]]) (c % d) d
      have o2 := vn_turned (μ ++ [acc ++ [.int ((a / b : Nat) : Int)]]) (a % b) b
      generalize (cf n d (c % d) b (a % b)).1 = fl at *
      generalize nf (cf n d (c % d) b (a % b)).2.1 (cf n d (c % d) b (a % b)).2.2 = lf at *
      generalize a / b = q at *
      generalize c / d = q2 at *
      generalize c % d = s at *
      generalize a % b = r at *
      obtain ⟨hg1, rfl⟩ := hg
      have t1 : t1_simplest_above [some (.d (nf a b)), some (.d (nf c d)), some (.loc μ.length), none, none, none] (μ ++ [acc]) = some (true, μ ++ [acc]) := by
        unfold nf at w1 w2 ⊢
        simp [t1_simplest_above, w1, w2, at1, PyData.eqv, PyData.plain, PyData.depth, show (1 : Int) < (b : Int) by omega]
      have b1 : w2_simplest_above [some (.d (nf a b)), some (.d (nf c d)), some (.loc μ.length), none, none, none] (μ ++ [acc]) = some (.nx [some (.d (nf d s)), some (.d (nf b r)), some (.loc μ.length), none, none, none] (μ ++ [acc ++ [.int (q : Int)]])) := by
        unfold nf at w1 r1 r2 o1 o2 ⊢
        simp [w2_simplest_above, w1, show acc.length < 1000000 by omega, r1, r2, o1, o2]
      simp only [whileM, t1, b1]
      rw [ih]
      simp
    · simp only [cf, if_neg hg]
      refine ⟨some (.d (nf c d)), ?_⟩
      have t1 : t1_simplest_above [some (.d (nf a b)), some (.d (nf c d)), some (.loc μ.length), none, none, none] (μ ++ [acc]) = some (false, μ ++ [acc]) := by
        unfold nf at w1 w2 ⊢
        by_cases c1 : 1 < b
        · have c2 : ¬ a / b = c / d := fun z => hg ⟨c1, z⟩
          clear hg
          generalize a / b = q at *
          generalize c / d = q2 at *
          have c3 : ((q : Int) == (q2 : Int)) = false := by rw [beq_eq_false_iff_ne]; omega
          simp [t1_simplest_above, w1, w2, at1, PyData.eqv, PyData.plain, PyData.depth, show (1 : Int) < (b : Int) by omega, c3, c2]
        · simp [t1_simplest_above, at1, show ¬ (1 : Int) < (b : Int) by omega]
      simp only [whileM, t1]
      simp
/-! ### the way back -/
def Gd : List Nat → Nat × Nat → Prop
  | [], _ => True
  | q :: zs, r => Sm q ∧ Sm r.1 ∧ Gd zs (q * r.1 + r.2, r.1)
theorem Gd.app : ∀ {zs : List Nat} {q : Nat} {r : Nat × Nat}, Gd zs r → Sm q → Sm (zs.foldl (fun r q => (q * r.1 + r.2, r.1)) r).1 → Gd (zs ++ [q]) r
  | [], q, r, _, h1, h2 => ⟨h1, h2, trivial⟩
  | z :: zs, q, r, ⟨a, b, c⟩, h1, h2 => ⟨a, b, Gd.app c h1 h2⟩
theorem back_rev (qs : List Nat) (t : Nat) : back qs t = qs.reverse.foldl (fun r q => (q * r.1 + r.2, r.1)) (t, 1) := by
  unfold back
  rw [List.foldl_reverse]
theorem cf_gd : ∀ (n a b c d : Nat), Sx a b c d → b + d ≤ n → Sm a → Sm b → Sm c → Sm d → Gd (cf n a b c d).1.reverse (ceil (cf n a b c d).2.1 (cf n a b c d).2.2, 1) ∧ Sm (smp n a b c d).1
  | 0, a, b, c, d, h, hn, _, _, _, _ => by have := h.b0; omega
  | n + 1, a, b, c, d, h, hn, sa, sb, sc, sd => by
    have key : Sm (smp (n + 1) a b c d).1 := sm_le sa ((smp_ok (n + 1) a b c d h hn).min a b h.b0 (Nat.le_refl _) h.le).1
    refine ⟨?_, key⟩
    by_cases hg : 1 < b ∧ a / b = c / d
    · have hs := h.step hg.1 hg.2
      have l1 := Nat.mod_lt c h.d0
      have l2 := Nat.mod_lt a h.b0
      obtain ⟨m1, m2⟩ := sx_sm h sa sb sc sd
      obtain ⟨i1, i2⟩ := cf_gd n d (c % d) b (a % b) hs (by omega) sd m1 sb m2
      simp only [cf, if_pos hg]
      rw [List.reverse_cons]
      refine Gd.app i1 (sm_le sa (Nat.div_le_self a b)) ?_
      unfold smp at i2
      rw [back_rev] at i2
      exact i2
    · simp only [cf, if_neg hg]
      trivial
theorem fold_prog (μ : Mu) (v0 v1 v2 : Option Vw) (src : Option Nat) (all : List PyData) (hs : srcOk src all μ) : ∀ (zs : List Nat) (r : Nat × Nat), Gd zs r → ∀ z5 : Option Vw,
    ∃ z5', VL.forM (tNm 5) w3_simplest_above src all (zs.map fun (q : Nat) => PyData.int (q : Int)) [v0, v1, v2, some (.d (.int (r.1 : Int))), some (.d (.int (r.2 : Int))), z5] μ =
      some (.nx [v0, v1, v2, some (.d (.int ((zs.foldl (fun r q => (q * r.1 + r.2, r.1)) r).1 : Int))), some (.d (.int ((zs.foldl (fun r q => (q * r.1 + r.2, r.1)) r).2 : Int))), z5'] μ)
  | [], r, _, z5 => ⟨z5, by simp [VL.forM, hs]⟩
  | q :: zs, r, ⟨h1, h2, h3⟩, z5 => by
    obtain ⟨z5', e⟩ := fold_prog μ v0 v1 v2 src all hs zs (q * r.1 + r.2, r.1) h3 (some (.d (.int (q : Int))))
    refine ⟨z5', ?_⟩
    have m := sm_mul h1 h2
    rw [List.map_cons]
    simp only [VL.forM, hs, if_true, tNm]
    have b : w3_simplest_above ([v0, v1, v2, some (.d (.int (r.1 : Int))), some (.d (.int (r.2 : Int))), z5].set 5 (some (.d (.int (q : Int))))) μ = some (.nx [v0, v1, v2, some (.d (.int ((q * r.1 + r.2 : Nat) : Int))), some (.d (.int (r.1 : Int))), some (.d (.int (q : Int)))] μ) := by
      simp [w3_simplest_above, m]
    rw [b]
    exact e
theorem neg_ceil {a b : Nat} (hb : 0 < b) : -((-(a : Int)).fdiv (b : Int)) = ((ceil a b : Nat) : Int) := by
  rw [Int.fdiv_eq_ediv_of_nonneg _ (Int.natCast_nonneg b)]
  have h1 := (ceil_iff (p := ceil a b) (a := a) hb).mp (Nat.le_refl _)
  have h2 : ∀ p : Nat, a ≤ p * b → ceil a b ≤ p := fun p h => (ceil_iff hb).mpr h
  have hb' : (0 : Int) < (b : Int) := by omega
  have k1 : -(a : Int) / (b : Int) = -((ceil a b : Nat) : Int) := by
    refine Int.le_antisymm ?_ ?_
    · rw [← Int.lt_add_one_iff, Int.ediv_lt_iff_lt_mul hb']
      rcases Nat.eq_zero_or_pos (ceil a b) with z | z
      · rw [z]; simp; omega
      · have : ¬ a ≤ (ceil a b - 1) * b := fun h => by have := h2 _ h; omega
        have e : (((ceil a b - 1) * b : Nat) : Int) = (((ceil a b : Nat) : Int) - 1) * (b : Int) := by
          rw [Int.natCast_mul, Int.natCast_sub z]; rfl
        have k : (((ceil a b : Nat) : Int) - 1) * (b : Int) < (a : Int) := by rw [← e]; omega
        grind
    · rw [Int.le_ediv_iff_mul_le hb']
      have : (a : Int) ≤ ((ceil a b : Nat) : Int) * (b : Int) := by rw [← Int.natCast_mul]; omega
      grind
  rw [k1]; omega
theorem v_above (μ : Mu) {a b c d : Nat} (h : Sx a b c d) (sa : Sm a) (sb : Sm b) (sc : Sm c) (sd : Sm d) : m_simplest_above μ [.d (nf a b), .d (nf c d)] = some (.d (nf (smp (b + d) a b c d).1 (smp (b + d) a b c d).2), μ) := by
  have hlen := cf_len 210 (b + d) a b c d h sb
  obtain ⟨hi, e1⟩ := prog_down μ (b + d) a b c d h (Nat.le_refl _) sa sb sc sd FUEL (by
    have h1 : b < 2 ^ 210 := sb
    have h2 : d < 2 ^ 210 := sd
    have h3 : 2 ^ 211 ≤ FUEL := by unfold FUEL; exact Nat.pow_le_pow_right (by decide) (by decide)
    rw [Nat.pow_succ] at h3
    omega) [] (by simp; omega)
  obtain ⟨e0, s1, s2⟩ := cf_end (b + d) a b c d h (Nat.le_refl _) sa sb sc sd
  obtain ⟨gd, _⟩ := cf_gd (b + d) a b c d h (Nat.le_refl _) sa sb sc sd
  have es : smp (b + d) a b c d = back (cf (b + d) a b c d).1 (ceil (cf (b + d) a b c d).2.1 (cf (b + d) a b c d).2.2) := rfl
  rw [es, back_rev]
  rw [List.nil_append] at e1
  generalize cf (b + d) a b c d = r at *
  obtain ⟨fl, x, y⟩ := r
  simp only at hlen e1 e0 s1 s2 gd ⊢
  have hc := neg_ceil (a := x) e0
  have dv := sm_div e0 s2 (-(x : Int))
  obtain ⟨z5', e2⟩ := fold_prog (μ ++ [fl.map fun (q : Nat) => PyData.int (q : Int)]) (some (.d (nf x y))) hi (some (.loc μ.length)) (some μ.length) (fl.map fun (q : Nat) => PyData.int (q : Int)) (fun m hm => by cases hm; simp) fl.reverse _ gd none
  rw [List.map_reverse] at e2
  simp only [Int.natCast_one] at e2
  generalize hfl : (fl.map fun (q : Nat) => PyData.int (q : Int)) = pl at *
  generalize fl.reverse.foldl (fun r q => (q * r.1 + r.2, r.1)) (ceil x y, 1) = w at *
  generalize ceil x y = t at *
  unfold nf at e1 e2 ⊢
  simp [m_simplest_above, b_simplest_above, fnM, sWhile]
  rw [e1]
  simp [at0, at1, dv, hc]
  rw [e2]
  simp
end MR
end
section
set_option Elab.async false
set_option linter.all false
set_option maxHeartbeats 1000000
set_option maxRecDepth 20000
set_option exponentiation.threshold 30000
namespace MR
open PySem PySem.Spec PyProof.Rows L2 VL MF
/-! ### the law's own way down -/
theorem up_nat {a b : Nat} (hb : 0 < b) : ((a : Int) + (b : Int) - 1).fdiv (b : Int) = ((ceil a b : Nat) : Int) := by
  rw [show (a : Int) + (b : Int) - 1 = ((a + b - 1 : Nat) : Int) by omega, fdiv_nat]
  rfl
theorem ceil_sm {a b : Nat} (ha : 0 < a) (hb : 0 < b) (sa : Sm a) : Sm (ceil a b) := sm_le sa ((ceil_iff hb).mpr (Nat.le_mul_of_pos_right a hb))
section
variable {t : BF} {w2 w3 : SF} {body : SF}
/-- one turn, either copy of the text -/
def Turn1 (w2 : SF) : Prop := w2 = w2__law_simplest
theorem law_down (μ : Mu) (v2 : Option Vw) : ∀ (n a b c d : Nat), Sx a b c d → b + d ≤ n → Sm a → Sm b → Sm c → Sm d → ∀ (f : Nat), n < f → ∀ (acc : List PyData) (v4 : Option Vw), acc.length + (cf n a b c d).1.length ≤ 900000 →
    ∃ lo hi, whileM t1__law_simplest w2__law_simplest f [some (.d (nf a b)), some (.d (nf c d)), v2, some (.loc μ.length), v4, none, none, none] (μ ++ [acc]) =
      some (.nx [lo, hi, v2, some (.loc μ.length), some (.d (.int (ceil (cf n a b c d).2.1 (cf n a b c d).2.2 : Nat))), none, none, none] (μ ++ [acc ++ (cf n a b c d).1.map fun (q : Nat) => PyData.int (q : Int)]))
  | 0, a, b, c, d, h, hn, _, _, _, _, _, _, _, _, _ => by have := h.b0; omega
  | n + 1, a, b, c, d, h, hn, sa, sb, sc, sd, 0, hf, _, _, _ => by omega
  | n + 1, a, b, c, d, h, hn, sa, sb, sc, sd, f + 1, hf, acc, v4, hl => by
    have t1 : ∀ ρ μ, t1__law_simplest ρ μ = some (true, μ) := fun ρ μ => by simp [t1__law_simplest]
    have dv := sm_div h.b0 sb ((a : Int) + (b : Int) - 1)
    have u1 := up_nat (a := a) h.b0
    have m1 : mulOk ((ceil a b : Nat) : Int) (d : Int) = true := sm_mul (ceil_sm h.a0 h.b0 sa) sd
    by_cases hg : 1 < b ∧ a / b = c / d
    · have hs := h.step hg.1 hg.2
      obtain ⟨g1, g2⟩ := h.goes hg.1 hg.2
      have l1 := Nat.mod_lt c h.d0
      have l2 := Nat.mod_lt a h.b0
      obtain ⟨k1, k2⟩ := sx_sm h sa sb sc sd
      simp only [cf, if_pos hg] at hl ⊢
      rw [List.length_cons] at hl
      obtain ⟨lo, hi, ih⟩ := law_down μ v2 n d (c % d) b (a % b) hs (by omega) sd k1 sb k2 f (by omega) (acc ++ [.int ((a / b : Nat) : Int)]) (some (.d (.int (ceil a b : Nat)))) (by rw [List.length_append, List.length_singleton]; omega)
      refine ⟨lo, hi, ?_⟩
      have e1 := Nat.div_add_mod a b
      have e2 := Nat.div_add_mod c d
      rw [← hg.2] at e2
      have sq := sm_le sa (Nat.div_le_self a b)
      have m2 := sm_mul sq sd
      have m3 := sm_mul sq sb
      generalize (cf n d (c % d) b (a % b)).1 = fl at *
      generalize ceil (cf n d (c % d) b (a % b)).2.1 (cf n d (c % d) b (a % b)).2.2 = lf at *
      generalize a / b = q at *
      generalize c / d = q2 at *
      generalize c % d = s at *
      generalize a % b = r at *
      generalize ceil a b = u at *
      subst g1
      have x1 : ((q + 1 : Nat) : Int) - 1 = (q : Int) := by omega
      have x2 : (c : Int) - (q : Int) * (d : Int) = (s : Int) := by
        have : ((d * q + s : Nat) : Int) = (c : Int) := by rw [e2]
        rw [Int.natCast_add, Int.natCast_mul] at this
        rw [Int.mul_comm]; omega
      have x3 : (a : Int) - (q : Int) * (b : Int) = (r : Int) := by
        have : ((b * q + r : Nat) : Int) = (a : Int) := by rw [e1]
        rw [Int.natCast_add, Int.natCast_mul] at this
        rw [Int.mul_comm]; omega
      have x4 : ¬ ((q + 1 : Nat) : Int) * (d : Int) ≤ (c : Int) := by
        rw [← Int.natCast_mul]; omega
      generalize ((q + 1 : Nat) : Int) = U at *
      have b1 : w2__law_simplest [some (.d (nf a b)), some (.d (nf c d)), v2, some (.loc μ.length), v4, none, none, none] (μ ++ [acc]) = some (.nx [some (.d (nf d s)), some (.d (nf b r)), v2, some (.loc μ.length), some (.d (.int U)), none, none, none] (μ ++ [acc ++ [.int (q : Int)]])) := by
        unfold nf
        simp [w2__law_simplest, at0, at1, dv, u1, m1, x4, x1, m2, m3, x2, x3, show acc.length < 1000000 by omega]
      simp only [whileM, t1, b1]
      rw [ih]
      simp
    · have ge := h.ends hg
      simp only [cf, if_neg hg]
      refine ⟨some (.d (nf a b)), some (.d (nf c d)), ?_⟩
      generalize ceil a b = u at *
      have x4 : (u : Int) * (d : Int) ≤ (c : Int) := by rw [← Int.natCast_mul]; omega
      have b1 : w2__law_simplest [some (.d (nf a b)), some (.d (nf c d)), v2, some (.loc μ.length), v4, none, none, none] (μ ++ [acc]) = some (.bk [some (.d (nf a b)), some (.d (nf c d)), v2, some (.loc μ.length), some (.d (.int (u : Int))), none, none, none] (μ ++ [acc])) := by
        unfold nf
        simp [w2__law_simplest, at0, at1, dv, u1, m1, x4]
      simp only [whileM, t1, b1]
      simp
theorem fold_law (μ : Mu) (v0 v1 v2 v3 v4 : Option Vw) (all : List PyData) : ∀ (zs : List Nat) (r : Nat × Nat), Gd zs r → ∀ z5 : Option Vw,
    ∃ z5', VL.forM (tNm 7) w3__law_simplest none all (zs.map fun (q : Nat) => PyData.int (q : Int)) [v0, v1, v2, v3, v4, some (.d (.int (r.1 : Int))), some (.d (.int (r.2 : Int))), z5] μ =
      some (.nx [v0, v1, v2, v3, v4, some (.d (.int ((zs.foldl (fun r q => (q * r.1 + r.2, r.1)) r).1 : Int))), some (.d (.int ((zs.foldl (fun r q => (q * r.1 + r.2, r.1)) r).2 : Int))), z5'] μ)
  | [], r, _, z5 => ⟨z5, by simp [VL.forM, srcOk_none]⟩
  | q :: zs, r, ⟨h1, h2, h3⟩, z5 => by
    obtain ⟨z5', e⟩ := fold_law μ v0 v1 v2 v3 v4 all zs (q * r.1 + r.2, r.1) h3 (some (.d (.int (q : Int))))
    refine ⟨z5', ?_⟩
    have m := sm_mul h1 h2
    rw [List.map_cons]
    simp only [VL.forM, srcOk_none, if_true, tNm]
    have b : w3__law_simplest ([v0, v1, v2, v3, v4, some (.d (.int (r.1 : Int))), some (.d (.int (r.2 : Int))), z5].set 7 (some (.d (.int (q : Int))))) μ = some (.nx [v0, v1, v2, v3, v4, some (.d (.int ((q * r.1 + r.2 : Nat) : Int))), some (.d (.int (r.1 : Int))), some (.d (.int (q : Int)))] μ) := by
      simp [w3__law_simplest, m]
    rw [b]
    exact e
end
/-- found for a stretch above 0: both copies of the text are one -/
theorem same1 : m__law_simplest__R1 = fnM false 8 b__law_simplest__R1 := rfl
theorem smp_sm {n a b c d : Nat} (h : Sx a b c d) (hn : b + d ≤ n) (sa : Sm a) (sb : Sm b) : Sm (smp n a b c d).1 ∧ Sm (smp n a b c d).2 := by
  have := (smp_ok n a b c d h hn).min a b h.b0 (Nat.le_refl _) h.le
  exact ⟨sm_le sa this.1, sm_le sb this.2⟩
theorem above_core (μ : Mu) (v2 v4 : Option Vw) {a b c d : Nat} (h : Sx a b c d) (sa : Sm a) (sb : Sm b) (sc : Sm c) (sd : Sm d) :
    ∃ (lo hi z7 : Option Vw) (fl : List PyData) (up : Int), sWhile t1__law_simplest w2__law_simplest FUEL [some (.d (nf a b)), some (.d (nf c d)), v2, some (.loc μ.length), v4, none, none, none] (μ ++ [[]]) = some (.nx [lo, hi, v2, some (.loc μ.length), some (.d (.int up)), none, none, none] (μ ++ [fl])) ∧
      VL.forM (tNm 7) w3__law_simplest none fl.reverse fl.reverse [lo, hi, v2, some (.loc μ.length), some (.d (.int up)), some (.d (.int up)), some (.d (.int 1)), none] (μ ++ [fl]) = some (.nx [lo, hi, v2, some (.loc μ.length), some (.d (.int up)), some (.d (.int (smp (b + d) a b c d).1)), some (.d (.int (smp (b + d) a b c d).2)), z7] (μ ++ [fl])) := by
  have hlen := cf_len 210 (b + d) a b c d h sb
  obtain ⟨lo, hi, e1⟩ := law_down μ v2 (b + d) a b c d h (Nat.le_refl _) sa sb sc sd FUEL (by
    have h1 : b < 2 ^ 210 := sb
    have h2 : d < 2 ^ 210 := sd
    have h3 : 2 ^ 211 ≤ FUEL := by unfold FUEL; exact Nat.pow_le_pow_right (by decide) (by decide)
    rw [Nat.pow_succ] at h3
    omega) [] v4 (by simp; omega)
  obtain ⟨gd, _⟩ := cf_gd (b + d) a b c d h (Nat.le_refl _) sa sb sc sd
  have es : smp (b + d) a b c d = back (cf (b + d) a b c d).1 (ceil (cf (b + d) a b c d).2.1 (cf (b + d) a b c d).2.2) := rfl
  rw [es, back_rev]
  obtain ⟨z7, e2⟩ := fold_law (μ ++ [(cf (b + d) a b c d).1.map fun (q : Nat) => PyData.int (q : Int)]) lo hi v2 (some (.loc μ.length)) (some (.d (.int (ceil (cf (b + d) a b c d).2.1 (cf (b + d) a b c d).2.2 : Nat)))) ((cf (b + d) a b c d).1.map fun (q : Nat) => PyData.int (q : Int)).reverse (cf (b + d) a b c d).1.reverse _ gd none
  rw [List.map_reverse] at e2
  simp only [Int.natCast_one] at e2
  exact ⟨lo, hi, z7, _, _, by unfold sWhile; exact e1, e2⟩
end MR
end
section
set_option Elab.async false
set_option linter.all false
set_option maxHeartbeats 1000000
set_option maxRecDepth 20000
set_option exponentiation.threshold 30000
namespace MR
open PySem PySem.Spec PyProof.Rows L2 VL MF
theorem low_smp {a b c d x y : Nat} (h : Smp a b c d x y) : L (x : Int) (y : Int) = ((x : Int), (y : Int)) := L_of (p := ((x : Int), (y : Int))) ⟨by have := h.y0; show 0 < (y : Int); omega, by simpa using h.g⟩
section
variable {a b c d : Nat}
theorem v_law_pos (μ : Mu) (h : Sx a b c d) (sa : Sm a) (sb : Sm b) (sc : Sm c) (sd : Sm d) : m__law_simplest μ [.d (nf a b), .d (nf c d)] = some (.d (nf (smp (b + d) a b c d).1 (smp (b + d) a b c d).2), μ) := by
  obtain ⟨lo, hi, z7, fl, up, e1, e2⟩ := above_core μ none none h sa sb sc sd
  have hs := smp_ok (b + d) a b c d h (Nat.le_refl _)
  obtain ⟨s1, s2⟩ := smp_sm h (Nat.le_refl _) sa sb
  generalize smp (b + d) a b c d = r at *
  have e3 := v_fr_low (μ ++ [fl]) (r.1 : Int) (r.2 : Int) (by have := hs.y0; omega) (lt_up (show (r.2 : Int).natAbs < 2 ^ 210 by simpa [Sm] using s2) (by decide))
  rw [low_smp hs] at e3
  have q1 : ¬ a = 0 := by have := h.a0; omega
  have q2 : ¬ (c : Int) < 0 := by omega
  unfold nf at e1 ⊢
  simp [m__law_simplest, b__law_simplest, fnM, at0, q1, q2]
  rw [e1]
  simp
  rw [e2]
  simp [e3]
theorem v_law_pos1 (μ : Mu) (h : Sx a b c d) (sa : Sm a) (sb : Sm b) (sc : Sm c) (sd : Sm d) : m__law_simplest__R1 μ [.d (nf a b), .d (nf c d)] = some (.d (nf (smp (b + d) a b c d).1 (smp (b + d) a b c d).2), μ) := by
  obtain ⟨lo, hi, z7, fl, up, e1, e2⟩ := above_core μ none none h sa sb sc sd
  have hs := smp_ok (b + d) a b c d h (Nat.le_refl _)
  obtain ⟨s1, s2⟩ := smp_sm h (Nat.le_refl _) sa sb
  generalize smp (b + d) a b c d = r at *
  have e3 := v_fr_low (μ ++ [fl]) (r.1 : Int) (r.2 : Int) (by have := hs.y0; omega) (lt_up (show (r.2 : Int).natAbs < 2 ^ 210 by simpa [Sm] using s2) (by decide))
  rw [low_smp hs] at e3
  have q1 : ¬ a = 0 := by have := h.a0; omega
  have q2 : ¬ (c : Int) < 0 := by omega
  have t1 : t1__law_simplest__R1 = t1__law_simplest := rfl
  have t2 : w2__law_simplest__R1 = w2__law_simplest := rfl
  have t3 : w3__law_simplest__R1 = w3__law_simplest := rfl
  unfold nf at e1 ⊢
  simp [m__law_simplest__R1, b__law_simplest__R1, fnM, at0, q1, q2, t1, t2, t3]
  rw [e1]
  simp
  rw [e2]
  simp [e3]
end
/-- the simplest one, of any stretch -/
def simpF (p q : Int × Int) : Int × Int :=
  if p.1 ≤ 0 ∧ 0 ≤ q.1 then (0, 1)
  else if q.1 < 0 then (-((smp (q.2.toNat + p.2.toNat) (-q.1).toNat q.2.toNat (-p.1).toNat p.2.toNat).1 : Int), ((smp (q.2.toNat + p.2.toNat) (-q.1).toNat q.2.toNat (-p.1).toNat p.2.toNat).2 : Int))
  else (((smp (p.2.toNat + q.2.toNat) p.1.toNat p.2.toNat q.1.toNat q.2.toNat).1 : Int), ((smp (p.2.toNat + q.2.toNat) p.1.toNat p.2.toNat q.1.toNat q.2.toNat).2 : Int))
theorem fr_nat {p : Int × Int} (h : Fr p) (h0 : 0 ≤ p.1) : ∃ a b : Nat, p = ((a : Int), (b : Int)) ∧ 0 < b ∧ Sm a ∧ Sm b ∧ Nat.gcd a b = 1 := by
  obtain ⟨x, y⟩ := p
  obtain ⟨a, rfl⟩ := Int.eq_ofNat_of_zero_le h0
  have hp := h.f.1
  simp only at hp
  obtain ⟨b, rfl⟩ := Int.eq_ofNat_of_zero_le (show 0 ≤ y by omega)
  have l : (10 : Nat) ^ 60 ≤ 2 ^ 210 := by decide +kernel
  exact ⟨a, b, rfl, by omega, by have := h.top; unfold Sm; simp at this ⊢; omega, by have := h.bot; unfold Sm; simp at this ⊢; omega, by simpa using h.f.2⟩
theorem Fr.neg {p : Int × Int} (h : Fr p) : Fr (-p.1, p.2) := ⟨⟨h.f.1, by simpa using h.f.2⟩, by simpa using h.top, h.bot⟩
section
variable {p q : Int × Int}
theorem v_simplest (μ : Mu) (h : Fr p) (h2 : Fr q) (le : p.1 * q.2 ≤ q.1 * p.2) : m_simplest μ [.d (fr p), .d (fr q)] = some (.d (fr (simpF p q)), μ) ∧ m__law_simplest μ [.d (fr p), .d (fr q)] = some (.d (fr (simpF p q)), μ) := by
  have c1 := v_check_both μ h h2
  have c2 := v_order_of μ h.bd h2.bd (by decide)
  have c3 : ¬ 0 < ordF p q := by unfold ordF; split <;> (try split) <;> omega
  by_cases g1 : p.1 ≤ 0 ∧ 0 ≤ q.1
  · have e : simpF p q = (0, 1) := if_pos g1
    rw [e]
    constructor
    · simp [m_simplest, b_simplest, m_simplest_between, b_simplest_between, fnM, c1, c2, c3, at0, g1.1, g1.2]
    · simp [m__law_simplest, b__law_simplest, fnM, at0, g1.1, g1.2]
  · by_cases g2 : q.1 < 0
    · have hp0 : p.1 < 0 := by
        by_cases z : p.1 < 0
        · exact z
        · have b1 := h.f.1
          have b2 := h2.f.1
          have : 0 ≤ p.1 * q.2 := Int.mul_nonneg (by omega) (by omega)
          have : q.1 * p.2 < 0 := Int.mul_neg_of_neg_of_pos g2 b1
          omega
      obtain ⟨a, b, e1, b0, sa, sb, gg1⟩ := fr_nat h2.neg (by show 0 ≤ -q.1; omega)
      obtain ⟨c, d, e2, d0, sc, sd, gg2⟩ := fr_nat h.neg (by show 0 ≤ -p.1; omega)
      have q1e : -q.1 = (a : Int) := congrArg Prod.fst e1
      have q2e : q.2 = (b : Int) := congrArg Prod.snd e1
      have p1e : -p.1 = (c : Int) := congrArg Prod.fst e2
      have p2e : p.2 = (d : Int) := congrArg Prod.snd e2
      have X : Sx a b c d := ⟨by omega, b0, d0, gg1, gg2, by
        have k1 : p.1 = -(c : Int) := by omega
        have k2 : q.1 = -(a : Int) := by omega
        rw [k1, k2, p2e, q2e] at le
        have : (a : Int) * (d : Int) ≤ (c : Int) * (b : Int) := by grind
        exact_mod_cast this⟩
      have e : simpF p q = (-((smp (b + d) a b c d).1 : Int), ((smp (b + d) a b c d).2 : Int)) := by
        unfold simpF
        rw [if_neg g1, if_pos g2, q1e, q2e, p1e, p2e]
        rfl
      have v1 := v_above μ X sa sb sc sd
      have v2 := v_law_pos1 μ X sa sb sc sd
      rw [e]
      generalize smp (b + d) a b c d = r at *
      unfold nf at v1 v2
      have n0 : ¬ (p.1 ≤ 0 ∧ 0 ≤ q.1) := g1
      have n1 : ¬ 0 ≤ q.1 := by omega
      have n2 : p.1 ≤ 0 := by omega
      constructor
      · simp [m_simplest, b_simplest, m_simplest_between, b_simplest_between, fnM, c1, c2, c3, at0, at1, n1, n2, g2, q1e, q2e, p1e, p2e, v1]
      · have z1 : 0 - q.1 = (a : Int) := by omega
        have z2 : 0 - p.1 = (c : Int) := by omega
        simp [m__law_simplest, b__law_simplest, fnM, at0, at1, n1, n2, g2, q1e, q2e, p1e, p2e, z1, z2, v2]
    · have hp0 : 0 < p.1 := by omega
      obtain ⟨a, b, e1, b0, sa, sb, gg1⟩ := fr_nat h (by omega)
      obtain ⟨c, d, e2, d0, sc, sd, gg2⟩ := fr_nat h2 (by omega)
      subst e1 e2
      simp only at hp0 le g1 g2
      have X : Sx a b c d := ⟨by omega, b0, d0, gg1, gg2, by exact_mod_cast le⟩
      have e : simpF ((a : Int), (b : Int)) ((c : Int), (d : Int)) = (((smp (b + d) a b c d).1 : Int), ((smp (b + d) a b c d).2 : Int)) := by
        unfold simpF
        rw [if_neg g1, if_neg g2]
        rfl
      have v1 := v_above μ X sa sb sc sd
      have v2 := v_law_pos μ X sa sb sc sd
      rw [e]
      have n2 : ¬ a = 0 := by omega
      refine ⟨?_, v2⟩
      generalize smp (b + d) a b c d = r at *
      unfold nf at v1
      simp [m_simplest, b_simplest, m_simplest_between, b_simplest_between, fnM, c1, c2, c3, at0, at1, n2, g2, v1]
/-- what holds of it -/
theorem simp_ok (h : Fr p) (h2 : Fr q) (le : p.1 * q.2 ≤ q.1 * p.2) : Bd 210 (simpF p q) ∧ p.1 * (simpF p q).2 ≤ (simpF p q).1 * p.2 ∧ (simpF p q).1 * q.2 ≤ q.1 * (simpF p q).2 ∧
    ∀ t s : Int, 0 < s → p.1 * s ≤ t * p.2 → t * q.2 ≤ q.1 * s → (simpF p q).2 ≤ s := by
  by_cases g1 : p.1 ≤ 0 ∧ 0 ≤ q.1
  · have e : simpF p q = (0, 1) := if_pos g1
    rw [e]
    exact ⟨⟨by decide, by decide, by decide⟩, by simp; exact g1.1, by simp; exact g1.2, fun t s h _ _ => by show 1 ≤ s; omega⟩
  · by_cases g2 : q.1 < 0
    · have hp0 : p.1 < 0 := by
        by_cases z : p.1 < 0
        · exact z
        · have b1 := h.f.1
          have b2 := h2.f.1
          have : 0 ≤ p.1 * q.2 := Int.mul_nonneg (by omega) (by omega)
          have : q.1 * p.2 < 0 := Int.mul_neg_of_neg_of_pos g2 b1
          omega
      obtain ⟨a, b, e1, b0, sa, sb, gg1⟩ := fr_nat h2.neg (by show 0 ≤ -q.1; omega)
      obtain ⟨c, d, e2, d0, sc, sd, gg2⟩ := fr_nat h.neg (by show 0 ≤ -p.1; omega)
      have q1e : -q.1 = (a : Int) := congrArg Prod.fst e1
      have q2e : q.2 = (b : Int) := congrArg Prod.snd e1
      have p1e : -p.1 = (c : Int) := congrArg Prod.fst e2
      have p2e : p.2 = (d : Int) := congrArg Prod.snd e2
      have k1 : p.1 = -(c : Int) := by omega
      have k2 : q.1 = -(a : Int) := by omega
      have X : Sx a b c d := ⟨by omega, b0, d0, gg1, gg2, by
        rw [k1, k2, p2e, q2e] at le
        have : (a : Int) * (d : Int) ≤ (c : Int) * (b : Int) := by grind
        exact_mod_cast this⟩
      have e : simpF p q = (-((smp (b + d) a b c d).1 : Int), ((smp (b + d) a b c d).2 : Int)) := by
        unfold simpF
        rw [if_neg g1, if_pos g2, q1e, q2e, p1e, p2e]
        rfl
      have S := smp_ok (b + d) a b c d X (Nat.le_refl _)
      obtain ⟨s1, s2⟩ := smp_sm X (Nat.le_refl _) sa sb
      rw [e, k1, k2, p2e, q2e]
      generalize smp (b + d) a b c d = r at *
      have y0 := S.y0
      have lo : (a : Int) * (r.2 : Int) ≤ (r.1 : Int) * (b : Int) := by exact_mod_cast S.lo
      have hi : (r.1 : Int) * (d : Int) ≤ (c : Int) * (r.2 : Int) := by exact_mod_cast S.hi
      refine ⟨⟨by show 0 < (r.2 : Int); omega, by simpa [Sm] using s1, by simpa [Sm] using s2⟩, ?_, ?_, fun t s hs k3 k4 => ?_⟩
      · show -(c : Int) * (r.2 : Int) ≤ -(r.1 : Int) * (d : Int)
        grind
      · show -(r.1 : Int) * (b : Int) ≤ -(a : Int) * (r.2 : Int)
        grind
      · obtain ⟨s', rfl⟩ := Int.eq_ofNat_of_zero_le (show 0 ≤ s by omega)
        have kt : t ≤ 0 := by
          by_cases z : t ≤ 0
          · exact z
          · have : 0 < t * (b : Int) := Int.mul_pos (by omega) (by omega)
            have : 0 ≤ (a : Int) * (s' : Int) := Int.mul_nonneg (by omega) (by omega)
            grind
        obtain ⟨u, hu⟩ := Int.eq_ofNat_of_zero_le (show 0 ≤ -t by omega)
        have et : t = -(u : Int) := by omega
        subst et
        have m := (S.min u s' (by omega) (by
          have : (a : Int) * (s' : Int) ≤ (u : Int) * (b : Int) := by grind
          exact_mod_cast this) (by
          have : (u : Int) * (d : Int) ≤ (c : Int) * (s' : Int) := by grind
          exact_mod_cast this)).2
        show (r.2 : Int) ≤ (s' : Int)
        omega
    · have hp0 : 0 < p.1 := by omega
      obtain ⟨a, b, e1, b0, sa, sb, gg1⟩ := fr_nat h (by omega)
      obtain ⟨c, d, e2, d0, sc, sd, gg2⟩ := fr_nat h2 (by omega)
      subst e1 e2
      simp only at hp0 le g1 g2
      have X : Sx a b c d := ⟨by omega, b0, d0, gg1, gg2, by exact_mod_cast le⟩
      have e : simpF ((a : Int), (b : Int)) ((c : Int), (d : Int)) = (((smp (b + d) a b c d).1 : Int), ((smp (b + d) a b c d).2 : Int)) := by
        unfold simpF
        rw [if_neg g1, if_neg g2]
        rfl
      have S := smp_ok (b + d) a b c d X (Nat.le_refl _)
      obtain ⟨s1, s2⟩ := smp_sm X (Nat.le_refl _) sa sb
      rw [e]
      generalize smp (b + d) a b c d = r at *
      have y0 := S.y0
      refine ⟨⟨by show 0 < (r.2 : Int); omega, by simpa [Sm] using s1, by simpa [Sm] using s2⟩, by show (a : Int) * (r.2 : Int) ≤ (r.1 : Int) * (b : Int); exact_mod_cast S.lo, by show (r.1 : Int) * (d : Int) ≤ (c : Int) * (r.2 : Int); exact_mod_cast S.hi, fun t s hs k3 k4 => ?_⟩
      obtain ⟨s', rfl⟩ := Int.eq_ofNat_of_zero_le (show 0 ≤ s by omega)
      have kt : 0 ≤ t := by
        by_cases z : 0 ≤ t
        · exact z
        · have : t * (b : Int) < 0 := Int.mul_neg_of_neg_of_pos (by omega) (by omega)
          have : 0 ≤ (a : Int) * (s' : Int) := Int.mul_nonneg (by omega) (by omega)
          simp only at k3
          omega
      obtain ⟨u, rfl⟩ := Int.eq_ofNat_of_zero_le kt
      simp only at k3 k4
      have m := (S.min u s' (by omega) (by exact_mod_cast k3) (by exact_mod_cast k4)).2
      show (r.2 : Int) ≤ (s' : Int)
      omega
end
end MR
end
section
set_option Elab.async false
set_option linter.all false
set_option maxHeartbeats 2000000
set_option maxRecDepth 20000
set_option exponentiation.threshold 30000
namespace MR
open PySem PySem.Spec PyProof.Rows L2 VL MF
theorem DU.refl {μ : Mu} {n : Nat} (d : Dice μ n) : DU μ n μ := by
  obtain ⟨a, b, c, h⟩ := d
  obtain ⟨hl, he⟩ := List.getElem?_eq_some_iff.mp h
  exact ⟨a, b, c, by rw [← he, List.set_getElem_self]⟩
section
variable {p q : Int × Int}
theorem v_has_lesser (μ : Mu) (h : Fr p) (h2 : Fr q) (le : p.1 * q.2 ≤ q.1 * p.2) (hB : (simpF p q).2 < 300) : m__law_has_lesser μ [.d (fr p), .d (fr q), .d (.int (simpF p q).2)] = some (.d (.bool false), μ) := by
  obtain ⟨bd, _, _, mn⟩ := simp_ok h h2 le
  have b0 := bd.pos
  generalize (simpF p q).2 = B at *
  have pp := h.bd.pos
  have qq := h2.bd.pos
  obtain ⟨ρ', μ', e1, em, _, z3, er⟩ := forM_run (t := tNm 3) (body := w1__law_has_lesser) (all := rngD 1 (B - 1).toNat)
    (fun ds ρ μ' => μ' = μ ∧ (∀ d ∈ ds, ∃ s : Int, d = .int s ∧ 0 < s ∧ s < B) ∧ ∃ z3 : Option Vw, ρ = [some (.d (fr p)), some (.d (fr q)), some (.d (.int B)), z3])
    (fun d ds ρ μ' ⟨em, hd, z3, er⟩ => by
      subst em er
      obtain ⟨s, rfl, s0, s1⟩ := hd d (by simp)
      have m1 : ∀ x, mulOk x s = true := fun x => mulOk_r (by omega)
      have d1 : ∀ x, divOk x p.2 = true := fun x => divOk_of (b := 200) (by omega) h.bd.bot (by decide)
      have d2 : ∀ x, divOk x q.2 = true := fun x => divOk_of (b := 200) (by omega) h2.bd.bot (by decide)
      have key : ¬ (p.1 * s + p.2 - 1).fdiv p.2 ≤ (q.1 * s).fdiv q.2 := by
        rw [Int.fdiv_eq_ediv_of_nonneg _ (by omega), Int.fdiv_eq_ediv_of_nonneg _ (by omega)]
        intro k
        have k2 : q.1 * s / q.2 * q.2 ≤ q.1 * s := Int.ediv_mul_le _ (by omega)
        generalize q.1 * s / q.2 = t at *
        have k3 : p.1 * s + p.2 - 1 < (t + 1) * p.2 := by
          have := Int.lt_ediv_add_one_mul_self (p.1 * s + p.2 - 1) pp
          have : ((p.1 * s + p.2 - 1) / p.2 + 1) * p.2 ≤ (t + 1) * p.2 := Int.mul_le_mul_of_nonneg_right (by omega) (by omega)
          omega
        rw [Int.add_mul] at k3
        have := mn t s s0 (by omega) k2
        omega
      exact ⟨_, _, μ', rfl, by simp [w1__law_has_lesser, at0, at1, m1, d1, d2, key], rfl, fun x hx => hd x (List.mem_cons_of_mem _ hx), some (.d (.int s)), rfl⟩)
    (rngD 1 (B - 1).toNat) [some (.d (fr p)), some (.d (fr q)), some (.d (.int B)), none] μ ⟨rfl, fun d hd => by
      obtain ⟨i, hi⟩ := List.getElem?_of_mem hd
      obtain ⟨hl, rfl⟩ := rngD_get hi
      exact ⟨1 + (i : Int), rfl, by omega, by omega⟩, none, rfl⟩
  subst em er
  have hr : rgOk 1 B := rgOk_of (by decide) (by decide) (by omega) (by omega)
  simp [m__law_has_lesser, b__law_has_lesser, fnM, hr]
  rw [show B.toNat - 1 = (B - 1).toNat by omega, e1]
  simp
theorem v_steps (μ : Mu) (h : Fr p) (h2 : Fr q) (p0 : 0 ≤ p.1) (q0 : 0 < q.1) : m_steps_for μ [.d (fr p), .d (fr q)] = some (.d (.int ((p.1 * q.2 + p.2 * q.1 - 1).fdiv (p.2 * q.1))), μ) := by
  have c1 := v_check_both μ h h2
  have hp := h.bd
  have hq := h2.bd
  have pp := hp.pos
  have qp := hq.pos
  have m1 : mulOk (-p.1) q.2 = true := mulOk_w (a := 200) (b := 200) (by rw [Int.natAbs_neg]; exact hp.top) hq.bot (by decide)
  have m2 : mulOk p.2 q.1 = true := mulOk_w hp.bot hq.top (by decide)
  have S0 : 0 < p.2 * q.1 := Int.mul_pos pp q0
  have d1 : ∀ x, divOk x (p.2 * q.1) = true := fun x => divOk_of (b := 400) (by omega) (lt_mul hp.bot hq.top) (by decide)
  have n1 : ¬ p.1 < 0 := by omega
  have n2 : ¬ q.1 ≤ 0 := by omega
  have e : -((-p.1 * q.2).fdiv (p.2 * q.1)) = (p.1 * q.2 + p.2 * q.1 - 1).fdiv (p.2 * q.1) := by
    have A0 : 0 ≤ p.1 * q.2 := Int.mul_nonneg p0 (by omega)
    rw [Int.neg_mul]
    obtain ⟨A, hA⟩ := Int.eq_ofNat_of_zero_le A0
    obtain ⟨S, hS⟩ := Int.eq_ofNat_of_zero_le (show 0 ≤ p.2 * q.1 by omega)
    rw [hA, hS, neg_ceil (by omega), up_nat (by omega)]
  rw [← e]
  simp [m_steps_for, b_steps_for, fnM, c1, at0, at1, n1, n2, m1, m2, d1]
end
theorem v_stretch {μ : Mu} {n : Nat} (d : Dice μ n) : ∃ (p q : Int × Int) (μ' : Mu), m__law_stretch μ [.loc n] = some (.d (.tuple [fr p, fr q]), μ') ∧ DU μ n μ' ∧ Fr p ∧ Fr q ∧ p.1 * q.2 ≤ q.1 * p.2 := by
  obtain ⟨x, μ1, e1, u1, hx⟩ := v_fr_drawn d
  have d1 := u1.dice d
  obtain ⟨y, μ2, e2, u2, hy⟩ := v_fr_drawn d1
  have d2 := u2.dice d1
  obtain ⟨w, μ3, w0, w1, u3, e3⟩ := v_roll d2 (most := 4) (by decide) (by decide +kernel)
  have d3 := u3.dice d2
  obtain ⟨r, μ4, r0, r1, u4, e4⟩ := v_roll d3 (most := 1000000) (by decide) (by decide +kernel)
  have uu3 := (u1.trans u2).trans u3
  have uu4 := uu3.trans u4
  have one : Bd 30 (1, 1 + r) := ⟨by show 0 < 1 + r; omega, by show (1 : Int).natAbs < 2 ^ 30; decide, by show (1 + r).natAbs < 2 ^ 30; omega⟩
  -- the other end
  have fin : ∀ (o : Int × Int) (μ9 : Mu), DU μ n μ9 → IsF o → Bd 300 o → (∀ (z : Int × Int), Fr z → (m__law_fr_below μ9 [.d (fr z), .d (fr x)] = some (.d (.bool (decide (z.1 * x.2 < x.1 * z.2))), μ9))) →
      (m__law_stretch μ [.loc n] = (match (if 1000000000000000000000000000000000000000000000000000000000000 ≤ (if (if o.1 < 0 then -o.1 else o.1) < o.2 then o.2 else if o.1 < 0 then -o.1 else o.1) then x else o) with
        | z => if z.1 * x.2 < x.1 * z.2 then some (.d (.tuple [fr z, fr x]), μ9) else some (.d (.tuple [fr x, fr z]), μ9))) →
      ∃ (p q : Int × Int) (μ' : Mu), m__law_stretch μ [.loc n] = some (.d (.tuple [fr p, fr q]), μ') ∧ DU μ n μ' ∧ Fr p ∧ Fr q ∧ p.1 * q.2 ≤ q.1 * p.2 := fun o μ9 u9 ho hb _ e => by
    have hz : Fr (if 1000000000000000000000000000000000000000000000000000000000000 ≤ (if (if o.1 < 0 then -o.1 else o.1) < o.2 then o.2 else if o.1 < 0 then -o.1 else o.1) then x else o) := by
      by_cases hc : 1000000000000000000000000000000000000000000000000000000000000 ≤ (if (if o.1 < 0 then -o.1 else o.1) < o.2 then o.2 else if o.1 < 0 then -o.1 else o.1)
      · rw [if_pos hc]; exact hx
      · rw [if_neg hc]
        have := hb.pos
        refine ⟨ho, ?_, ?_⟩
        · by_cases c : o.1 < 0
          · rw [if_pos c] at hc; split at hc <;> omega
          · rw [if_neg c] at hc; split at hc <;> omega
        · by_cases c : o.1 < 0
          · rw [if_pos c] at hc; split at hc <;> omega
          · rw [if_neg c] at hc; split at hc <;> omega
    generalize (if 1000000000000000000000000000000000000000000000000000000000000 ≤ (if (if o.1 < 0 then -o.1 else o.1) < o.2 then o.2 else if o.1 < 0 then -o.1 else o.1) then x else o) = z at *
    by_cases c : z.1 * x.2 < x.1 * z.2
    · simp only [if_pos c] at e
      exact ⟨z, x, μ9, e, u9, hz, hx, by omega⟩
    · simp only [if_neg c] at e
      exact ⟨x, z, μ9, e, u9, hx, hz, by omega⟩
  have bl : ∀ (μ9 : Mu) (z : Int × Int) (m : Nat), Bd m z → m ≤ 400 → m__law_fr_below μ9 [.d (fr z), .d (fr x)] = some (.d (.bool (decide (z.1 * x.2 < x.1 * z.2))), μ9) := fun μ9 z m hz hm => v_law_below μ9 hz hx.bd (by omega)
  have l3 := uu3.len
  have l4 := uu4.len
  have bxx := fun μ9 => bl μ9 x 200 hx.bd (by decide)
  by_cases c0 : w = 0
  · subst c0
    refine fin x μ3 uu3 hx.f (hx.bd.mono (by decide)) (fun z hz => bl μ3 z 200 hz.bd (by decide)) ?_
    have b := bxx μ3
    simp at b
    by_cases hc : 1000000000000000000000000000000000000000000000000000000000000 ≤ (if (if x.1 < 0 then -x.1 else x.1) < x.2 then x.2 else if x.1 < 0 then -x.1 else x.1)
    · simp [m__law_stretch, b__law_stretch, fnM, e1, e2, e3, at0, at1, PyData.eqv, PyData.plain, PyData.depth, b, hc, ← l3]
    · simp [m__law_stretch, b__law_stretch, fnM, e1, e2, e3, at0, at1, PyData.eqv, PyData.plain, PyData.depth, b, hc, ← l3]
  · by_cases c1 : w = 1
    · subst c1
      have pl := v_law_plus μ4 hx.bd one (by decide)
      have bo := addF_Bd hx.bd one
      have io : IsF (addF x (1, 1 + r)) := L_isF _ (pos_mul hx.bd.pos one.pos)
      refine fin (addF x (1, 1 + r)) μ4 uu4 io (bo.mono (by decide)) (fun z hz => bl μ4 z 200 hz.bd (by decide)) ?_
      have b1 := bl μ4 (addF x (1, 1 + r)) 231 bo (by decide)
      have b := bxx μ4
      simp at b
      generalize addF x (1, 1 + r) = o at *
      by_cases hc : 1000000000000000000000000000000000000000000000000000000000000 ≤ (if (if o.1 < 0 then -o.1 else o.1) < o.2 then o.2 else if o.1 < 0 then -o.1 else o.1)
      · simp [m__law_stretch, b__law_stretch, fnM, e1, e2, e3, e4, at0, at1, PyData.eqv, PyData.plain, PyData.depth, pl, hc, b, ← l4]
      · by_cases c : o.1 * x.2 < x.1 * o.2
        · simp [m__law_stretch, b__law_stretch, fnM, e1, e2, e3, e4, at0, at1, PyData.eqv, PyData.plain, PyData.depth, pl, hc, b1, c, ← l4]
        · simp [m__law_stretch, b__law_stretch, fnM, e1, e2, e3, e4, at0, at1, PyData.eqv, PyData.plain, PyData.depth, pl, hc, b1, c, ← l4]
    · refine fin y μ3 uu3 hy.f (hy.bd.mono (by decide)) (fun z hz => bl μ3 z 200 hz.bd (by decide)) ?_
      have c0' : (w == 0) = false := by simpa using c0
      have c1' : (w == 1) = false := by simpa using c1
      have b1 := bl μ3 y 200 hy.bd (by decide)
      have b := bxx μ3
      simp at b
      by_cases hc : 1000000000000000000000000000000000000000000000000000000000000 ≤ (if (if y.1 < 0 then -y.1 else y.1) < y.2 then y.2 else if y.1 < 0 then -y.1 else y.1)
      · simp [m__law_stretch, b__law_stretch, fnM, e1, e2, e3, at0, at1, PyData.eqv, PyData.plain, PyData.depth, c0', c1', hc, b, ← l3]
      · by_cases c : y.1 * x.2 < x.1 * y.2
        · simp [m__law_stretch, b__law_stretch, fnM, e1, e2, e3, at0, at1, PyData.eqv, PyData.plain, PyData.depth, c0', c1', hc, b1, c, ← l3]
        · simp [m__law_stretch, b__law_stretch, fnM, e1, e2, e3, at0, at1, PyData.eqv, PyData.plain, PyData.depth, c0', c1', hc, b1, c, ← l3]
end MR
end
section
set_option Elab.async false
set_option linter.all false
set_option maxHeartbeats 4000000
set_option maxRecDepth 20000
set_option exponentiation.threshold 30000
namespace MR
open PySem PySem.Spec PyProof.Rows L2 VL MF
theorem most_ok {y : Int × Int} (hy : Fr y) : ∃ M1 M2 : Int, (if 1 < (if y.1 < 0 then -y.1 else y.1) then (if y.1 < 0 then -y.1 else y.1) else 1) = M1 ∧ ((y.1 == 0) = true → M2 = 1) ∧ ((y.1 == 0) = false → M2 = y.2) ∧ 0 < M1 ∧ Fr (M1, M2) := by
  by_cases c : y.1 = 0
  · refine ⟨1, 1, by simp [c], fun _ => rfl, fun z => by simp [c] at z, by decide, ⟨⟨by decide, by decide⟩, by decide, by decide⟩⟩
  · have g := hy.f.2
    have t := hy.top
    refine ⟨(y.1.natAbs : Int), y.2, ?_, fun z => by simp at z; exact absurd z c, fun _ => rfl, by omega, ⟨⟨hy.f.1, ?_⟩, ?_, hy.bot⟩⟩
    · split <;> split at * <;> omega
    · show Nat.gcd ((y.1.natAbs : Int)).natAbs y.2.natAbs = 1
      rw [Int.natAbs_natCast]; exact g
    · show ((y.1.natAbs : Int)).natAbs < 10 ^ 60
      rw [Int.natAbs_natCast]; exact t
theorem abs_ok {x : Int × Int} (hx : Fr x) : ∃ X : Int, (if x.1 < 0 then -x.1 else x.1) = X ∧ 0 ≤ X ∧ Fr (X, x.2) := by
  by_cases c : x.1 < 0
  · exact ⟨-x.1, if_pos c, by omega, hx.neg⟩
  · exact ⟨x.1, if_neg c, by omega, hx⟩
theorem v_right {μ : Mu} {n : Nat} (d : Dice μ n) : ∃ μ', m__law_right μ [.loc n] = some (.d (.bool true), μ') ∧ DU μ n μ' := by
  obtain ⟨p, q, μ1, e1, u1, hp, hq, le⟩ := v_stretch d
  have d1 := u1.dice d
  obtain ⟨e2, e3⟩ := v_simplest μ1 hp hq le
  obtain ⟨bd, lo, hi, _⟩ := simp_ok hp hq le
  have e4 := v_law_below μ1 bd hp.bd (by decide)
  have e5 := v_law_below μ1 hq.bd bd (by decide)
  rw [decide_eq_false (by omega)] at e4 e5
  have e6 := fun h => v_has_lesser μ1 hp hq le h
  generalize simpF p q = F at *
  obtain ⟨x, μ2, e7, u2, hx⟩ := v_fr_drawn d1
  have d2 := u2.dice d1
  obtain ⟨y, μ3, e8, u3, hy⟩ := v_fr_drawn d2
  have d3 := u3.dice d2
  obtain ⟨X, hX, X0, FX⟩ := abs_ok hx
  obtain ⟨M1, M2, hM, hM2, hM3, M0, FM⟩ := most_ok hy
  have st := v_steps μ3 FX FM X0 M0
  obtain ⟨t, μ4, t0, t1, u4, e9⟩ := v_roll d3 (most := 9) (by decide) (by decide +kernel)
  have m1 : mulOk X M2 = true := mulOk_w FX.bd.top FM.bd.bot (by decide)
  have m2 : mulOk x.2 M1 = true := mulOk_w FX.bd.bot FM.bd.top (by decide)
  have m3 : mulOk M1 t = true := mulOk_r (by omega)
  have x0 : 0 < x.2 := hx.f.1
  have S0 : 0 < x.2 * M1 := Int.mul_pos x0 M0
  have dv : ∀ i, divOk i (x.2 * M1) = true := fun i => divOk_of (b := 400) (by omega) (lt_mul FX.bd.bot FM.bd.top) (by decide)
  have mb : 0 < M2 := FM.f.1
  have wlow := v_fr_low μ4 (M1 * t) M2 (by omega) (lt_up FM.bd.bot (by decide))
  have wF := L_isF (M1 * t) (b := M2) (by omega)
  have wv := L_val (M1 * t) (b := M2) (by omega)
  have uu := (((u1.trans u2).trans u3).trans u4)
  have hl := uu.len
  have wnn : 0 ≤ (L (M1 * t) M2).1 := by
    have h2 := wF.1
    have : 0 ≤ M1 * t * (L (M1 * t) M2).2 := Int.mul_nonneg (Int.mul_nonneg (by omega) t0) (by omega)
    rw [← wv] at this
    exact Int.nonneg_of_mul_nonneg_left this mb
  generalize L (M1 * t) M2 = wl at *
  have rf : ∀ v : Int, (v == v) = true := fun v => by simp
  have last : ¬ 1000000000000000000000000000000000000000000000000000000000000 ≤ max wl.1 wl.2 → m_steps_for μ4 [.d (fr wl), .d (fr (M1, M2))] = some (.d (.int t), μ4) := fun hbig => by
    have w0 := wF.1
    have Fw : Fr wl := ⟨wF, by omega, by omega⟩
    have s2 := v_steps μ4 Fw FM wnn M0
    have e : (wl.1 * M2 + wl.2 * M1 - 1).fdiv (wl.2 * M1) = t := by
      have S1 : 0 < wl.2 * M1 := Int.mul_pos w0 M0
      rw [wv, show M1 * t * wl.2 = t * (wl.2 * M1) by grind, Int.fdiv_eq_ediv_of_nonneg _ (by omega)]
      rw [show t * (wl.2 * M1) + wl.2 * M1 - 1 = (wl.2 * M1 - 1) + t * (wl.2 * M1) by omega, Int.add_mul_ediv_right _ _ (by omega), Int.ediv_eq_zero_of_lt (by omega) (by omega)]
      omega
    rw [e] at s2
    exact s2
  refine ⟨μ4, ?_, uu⟩
  have eqF := eqv_fr F F
  simp [PyData.eqv, PyData.eqvAll] at eqF
  cases hy0 : (y.1 == 0) with
  | true =>
    have k1 := hM2 hy0
    subst k1
    by_cases hB : F.2 < 300
    · by_cases hbig : 1000000000000000000000000000000000000000000000000000000000000 ≤ max wl.1 wl.2
      · simp [m__law_right, b__law_right, fnM, e1, e2, e3, e4, e5, e6 hB, hB, e7, e8, at0, at1, hX, hM, hy0, st, m1, m2, dv, e9, m3, wlow, hbig, PyData.eqv, PyData.eqvAll, PyData.plain, PyData.plainAll, PyData.depth, PyData.depthAll, ← hl]
      · simp [m__law_right, b__law_right, fnM, e1, e2, e3, e4, e5, e6 hB, hB, e7, e8, at0, at1, hX, hM, hy0, st, m1, m2, dv, e9, m3, wlow, hbig, last hbig, PyData.eqv, PyData.eqvAll, PyData.plain, PyData.plainAll, PyData.depth, PyData.depthAll, ← hl]
    · by_cases hbig : 1000000000000000000000000000000000000000000000000000000000000 ≤ max wl.1 wl.2
      · simp [m__law_right, b__law_right, fnM, e1, e2, e3, e4, e5, hB, e7, e8, at0, at1, hX, hM, hy0, st, m1, m2, dv, e9, m3, wlow, hbig, PyData.eqv, PyData.eqvAll, PyData.plain, PyData.plainAll, PyData.depth, PyData.depthAll, ← hl]
      · simp [m__law_right, b__law_right, fnM, e1, e2, e3, e4, e5, hB, e7, e8, at0, at1, hX, hM, hy0, st, m1, m2, dv, e9, m3, wlow, hbig, last hbig, PyData.eqv, PyData.eqvAll, PyData.plain, PyData.plainAll, PyData.depth, PyData.depthAll, ← hl]
  | false =>
    have k1 := hM3 hy0
    subst k1
    by_cases hB : F.2 < 300
    · by_cases hbig : 1000000000000000000000000000000000000000000000000000000000000 ≤ max wl.1 wl.2
      · simp [m__law_right, b__law_right, fnM, e1, e2, e3, e4, e5, e6 hB, hB, e7, e8, at0, at1, hX, hM, hy0, st, m1, m2, dv, e9, m3, wlow, hbig, PyData.eqv, PyData.eqvAll, PyData.plain, PyData.plainAll, PyData.depth, PyData.depthAll, ← hl]
      · simp [m__law_right, b__law_right, fnM, e1, e2, e3, e4, e5, e6 hB, hB, e7, e8, at0, at1, hX, hM, hy0, st, m1, m2, dv, e9, m3, wlow, hbig, last hbig, PyData.eqv, PyData.eqvAll, PyData.plain, PyData.plainAll, PyData.depth, PyData.depthAll, ← hl]
    · by_cases hbig : 1000000000000000000000000000000000000000000000000000000000000 ≤ max wl.1 wl.2
      · simp [m__law_right, b__law_right, fnM, e1, e2, e3, e4, e5, hB, e7, e8, at0, at1, hX, hM, hy0, st, m1, m2, dv, e9, m3, wlow, hbig, PyData.eqv, PyData.eqvAll, PyData.plain, PyData.plainAll, PyData.depth, PyData.depthAll, ← hl]
      · simp [m__law_right, b__law_right, fnM, e1, e2, e3, e4, e5, hB, e7, e8, at0, at1, hX, hM, hy0, st, m1, m2, dv, e9, m3, wlow, hbig, last hbig, PyData.eqv, PyData.eqvAll, PyData.plain, PyData.plainAll, PyData.depth, PyData.depthAll, ← hl]
end MR
end
section
set_option Elab.async false
set_option linter.all false
set_option maxHeartbeats 8000000
set_option maxRecDepth 20000
set_option exponentiation.threshold 30000
namespace MR
open PySem PySem.Spec PyProof.Rows L2 VL MF
theorem v_dice (μ : Mu) (ns : List Int) (k : Int) (hk : 0 ≤ k) : ∃ a b : Int, m__law_dice μ [.kl ns, .d (.int k)] = some (.loc μ.length, μ ++ [[.int a, .int b, .int 0]]) := by
  have m1 : ∀ x, mulOk 71 x = true := fun x => mulOk_l (by decide)
  have m2 : ∀ x, mulOk x 89 = true := fun x => mulOk_r (by decide)
  have m3 : ∀ x, mulOk 1021 x = true := fun x => mulOk_l (by decide)
  have m4 : ∀ x, mulOk 47 x = true := fun x => mulOk_l (by decide)
  have m5 : mulOk 1000000000000000000000000000000000000000000000000000000000 100000000000000000000000000000000000000000000000000000000000 = true := by decide +kernel
  have tk : ∀ l : List PyData, ((μ ++ [l]).take μ.length) = μ := fun l => by simp
  by_cases c : k < ns.length
  · obtain ⟨j, rfl⟩ := Int.eq_ofNat_of_zero_le hk
    have hj : j < ns.length := by omega
    have a0 : atI (ns.map PyData.int) (j : Int) = some (.int ns[j]) := atI_nat (by simp [hj])
    simp [m__law_dice, b__law_dice, fnM, m1, m2, m3, m4, m5, hj, a0]
  · simp [m__law_dice, b__law_dice, fnM, m1, m2, m3, m4, m5, c]
theorem law_true (ns : List Int) (hl : ns.length ≤ 63) : ∃ μ', m_law [] [.kl ns] = some (.d (.bool true), μ') := by
  obtain ⟨mx, hmx⟩ : ∃ mx, mx = (if (if ((ns.length : Nat) : Int) < 4 then ((ns.length : Nat) : Int) else 4) > 1 then (if ((ns.length : Nat) : Int) < 4 then ((ns.length : Nat) : Int) else 4) else 1) := ⟨_, rfl⟩
  obtain ⟨ρ2, μ2, e2, z1, z2, z3, er, _⟩ := forM_run (t := tNm 1) (body := w2_law) (all := rngD 0 mx.toNat)
    (fun ds ρ μ' => ∃ z1 z2 z3, ρ = [some (.kl ns), z1, z2, z3, none] ∧ ∀ d ∈ ds, ∃ j : Int, d = .int j ∧ 0 ≤ j)
    (fun d ds ρ μ ⟨z1, z2, z3, er, hd⟩ => by
      subst er
      obtain ⟨j, rfl, hj⟩ := hd d (by simp)
      obtain ⟨a, b, ed⟩ := v_dice μ ns j hj
      have dd : Dice (μ ++ [[.int a, .int b, .int 0]]) μ.length := ⟨a, b, 0, by simp⟩
      obtain ⟨ρ', μ', e5, d5, z3', er5⟩ := forM_run (t := tNm 3) (body := w1_law) (all := rngD 0 8)
        (fun ds ρ μ' => Dice μ' μ.length ∧ ∃ z3, ρ = [some (.kl ns), some (.d (.int j)), some (.loc μ.length), z3, none])
        (fun d ds ρ μ1 ⟨d1, z3, er⟩ => by
          subst er
          obtain ⟨μ2, e1, u1⟩ := v_right d1
          exact ⟨_, _, μ2, rfl, by simp [w1_law, e1], u1.dice d1, some (.d d), rfl⟩)
        (rngD 0 8) [some (.kl ns), some (.d (.int j)), some (.loc μ.length), z3, none] (μ ++ [[.int a, .int b, .int 0]]) ⟨dd, z3, rfl⟩
      subst er5
      refine ⟨_, _, μ', rfl, ?_, some (.d (.int j)), some (.loc μ.length), z3', rfl, fun x hx => hd x (List.mem_cons_of_mem _ hx)⟩
      have h4 : rgOk 0 8 := rgOk_of (by decide) (by decide) (by decide) (by decide)
      simp [w2_law, ed, h4]
      rw [e5])
    (rngD 0 mx.toNat) [some (.kl ns), none, none, none, none] [] ⟨none, none, none, rfl, fun d hd => by
      obtain ⟨i, hi⟩ := List.getElem?_of_mem hd
      obtain ⟨_, rfl⟩ := rngD_get hi
      exact ⟨_, rfl, by omega⟩⟩
  subst er
  have hb : rgOk 0 mx := by
    have : 0 ≤ mx ∧ mx ≤ 100 := by rw [hmx]; split <;> (try split) <;> omega
    exact rgOk_of (by decide) (by decide) (by omega) (by omega)
  have mk : ∀ p : Int × Int, 0 < p.2 → Nat.gcd p.1.natAbs p.2.natAbs = 1 → p.1.natAbs < 10 ^ 60 → p.2.natAbs < 10 ^ 60 → Fr p := fun p a b c d => ⟨⟨a, b⟩, c, d⟩
  have f1 := (v_simplest μ2 (p := (3, 10)) (q := (2, 5)) (mk _ (by decide) (by decide) (by decide) (by decide)) (mk _ (by decide) (by decide) (by decide) (by decide)) (by decide)).1
  rw [show simpF (3, 10) (2, 5) = (1, 3) by decide +kernel] at f1
  have f2 := (v_simplest μ2 (p := ((-7), 2)) (q := ((-2), 1)) (mk _ (by decide) (by decide) (by decide) (by decide)) (mk _ (by decide) (by decide) (by decide) (by decide)) (by decide)).1
  rw [show simpF ((-7), 2) ((-2), 1) = ((-2), 1) by decide +kernel] at f2
  have f3 := (v_simplest μ2 (p := ((-1), 3)) (q := (5, 1)) (mk _ (by decide) (by decide) (by decide) (by decide)) (mk _ (by decide) (by decide) (by decide) (by decide)) (by decide)).1
  rw [show simpF ((-1), 3) (5, 1) = (0, 1) by decide +kernel] at f3
  have f4 := (v_simplest μ2 (p := (5, 7)) (q := (5, 7)) (mk _ (by decide) (by decide) (by decide) (by decide)) (mk _ (by decide) (by decide) (by decide) (by decide)) (by decide)).1
  rw [show simpF (5, 7) (5, 7) = (5, 7) by decide +kernel] at f4
  have f5 := (v_simplest μ2 (p := (2, 7)) (q := (3, 7)) (mk _ (by decide) (by decide) (by decide) (by decide)) (mk _ (by decide) (by decide) (by decide) (by decide)) (by decide)).1
  rw [show simpF (2, 7) (3, 7) = (1, 3) by decide +kernel] at f5
  have f6 := (v_simplest μ2 (p := (311, 100)) (q := (157, 50)) (mk _ (by decide) (by decide) (by decide) (by decide)) (mk _ (by decide) (by decide) (by decide) (by decide)) (by decide)).1
  rw [show simpF (311, 100) (157, 50) = (25, 8) by decide +kernel] at f6
  have f7 := v_steps μ2 (p := (1, 1)) (q := (2, 7)) (mk _ (by decide) (by decide) (by decide) (by decide)) (mk _ (by decide) (by decide) (by decide) (by decide)) (by decide) (by decide)
  rw [show (((1 : Int), (1 : Int)).1 * ((2 : Int), (7 : Int)).2 + ((1 : Int), (1 : Int)).2 * ((2 : Int), (7 : Int)).1 - 1).fdiv (((1 : Int), (1 : Int)).2 * ((2 : Int), (7 : Int)).1) = 4 by decide +kernel] at f7
  have f8 := v_steps μ2 (p := (0, 1)) (q := (2, 7)) (mk _ (by decide) (by decide) (by decide) (by decide)) (mk _ (by decide) (by decide) (by decide) (by decide)) (by decide) (by decide)
  rw [show (((0 : Int), (1 : Int)).1 * ((2 : Int), (7 : Int)).2 + ((0 : Int), (1 : Int)).2 * ((2 : Int), (7 : Int)).1 - 1).fdiv (((0 : Int), (1 : Int)).2 * ((2 : Int), (7 : Int)).1) = 0 by decide +kernel] at f8
  refine ⟨[], ?_⟩
  simp only [m_law, b_law, fnM]
  simp
  simp only [gt_iff_lt] at hmx
  rw [← hmx]
  simp [hb]
  rw [e2]
  simp [f1, f2, f3, f4, f5, f6, f7, f8, PyData.eqv, PyData.eqvAll, PyData.plain, PyData.plainAll, PyData.depth, PyData.depthAll]
end MR
end
section
set_option Elab.async false
set_option linter.all false
set_option maxRecDepth 100000
namespace MR
open PySem PySem.Spec PyProof.Rows L2 VL
def top (i : Nat) : Stmt := PySem.Challenge.pw_anymargin_k01_whole_simplest_ones_and_st.main.body.getD i (.Pass ⟨0, 0, 0, 0⟩)
/-- what the top says of names -/
structure Txt (K : PySem.W.Frag) (mg : Str → Option Value) : Prop where
  n_abs : mg "abs" = none
  n_bool : mg "bool" = none
  n_int : mg "int" = none
  n_isinstance : mg "isinstance" = none
  n_len : mg "len" = none
  n_max : mg "max" = none
  n_min : mg "min" = none
  n_range : mg "range" = none
  n_reversed : mg "reversed" = none
  n_tuple : mg "tuple" = none
  i_GREATEST : ∃ t, mg "GREATEST" = some (.int 999999999999999999999999999999999999999999999999999999999999 t)
  t_ZERO : mg "ZERO" = some (.ref (He.ga K "ZERO")) ∧ ∀ A H, Da K A H (.tuple [(.int 0), (.int 1)]) (.ref (He.ga K "ZERO"))
  g_gcd : mg "gcd" = some (.builtin "math.gcd")
abbrev FnP (K : PySem.W.Frag) (x : Str) (i : Nat) : Prop := ∃ fd, FunD K x x (defArgs (top i)) (defBody (top i)) (defScope (top i)) [] [] (He.ga K x) fd
section
variable {P : Program} {w : World} {K : PySem.W.Frag} {mg : Str → Option Value} {base : Heap}
abbrev N__law_dice : List Str := ["script", "spot", "cell", "left"]
theorem S__law_dice : FnScope ["script", "spot", "cell", "left"] ["script", "spot"] (defScope (top 25)) := ⟨rfl, rfl, rfl, by decide +kernel, rfl, by decide +kernel, by decide +kernel⟩
theorem c__law_dice (T : Txt K mg) (hf : mg "_law_dice" = some (.ref (He.ga K "_law_dice"))) (F : FnP K "_law_dice" 25)  : CalM P w K mg base 1 "_law_dice" 2 m__law_dice := by
  obtain ⟨fd, F⟩ := F
  refine cal_ok true (k := 0) hf F S__law_dice (fun _ _ _ _ _ _ us hl => match us, hl with | [_, _], _ => rfl) (fun cdv A outer s H E hr => ?_)
  exact (ssj_cons (sj_set (i := 2) S__law_dice.nd (ej_if (tj_cmp op_lt qLt (ej_var 1) (ej_bi call_len oLen_ok T.n_len (aj_cons (ej_var 0) aj_nil) (by decide +kernel))) (ej_ty call_int1 oInt_ok T.n_int (aj_cons (ej_item (ej_var 0) (ej_var 1)) aj_nil) (by decide +kernel)) (ej_add (ej_mul ej_int (ej_var 1)) ej_int)))
    (ssj_cons (sj_set (i := 3) S__law_dice.nd (ej_mod (ej_bi (call_max2 rfl) oMax2_ok T.n_max (aj_cons ej_int (aj_cons (ej_sub (ej_bi call_abs oAbs_ok T.n_abs (aj_cons (ej_var 2) aj_nil) (by decide +kernel)) (ej_pow ej_int ej_int)) aj_nil)) (by decide +kernel)) (ej_mul (ej_pow ej_int ej_int) (ej_pow ej_int ej_int))))
    (ssj_one (sj_ret (ej_lstC (aj_cons (ej_var 3) (aj_cons (ej_add (ej_add (ej_add (ej_mul (ej_mod (ej_bi call_abs oAbs_ok T.n_abs (aj_cons (ej_var 2) aj_nil) (by decide +kernel)) ej_int) ej_int) (ej_mul ej_int (ej_var 1))) (ej_mul ej_int (ej_ty call_int1 oInt_ok T.n_int (aj_cons (ej_cmp op_lt qLt (ej_var 2) ej_int) aj_nil) (by decide +kernel)))) ej_int) (aj_cons ej_int aj_nil))))))))
abbrev N_is_row : List Str := ["many", "value"]
theorem S_is_row : FnScope ["many", "value"] ["many", "value"] (defScope (top 8)) := ⟨rfl, rfl, rfl, by decide +kernel, rfl, by decide +kernel, by decide +kernel⟩
theorem c_is_row (T : Txt K mg) (hf : mg "is_row" = some (.ref (He.ga K "is_row"))) (F : FnP K "is_row" 8)  : CalM P w K mg base 1 "is_row" 2 m_is_row := by
  obtain ⟨fd, F⟩ := F
  refine cal_ok false (k := 0) hf F S_is_row (fun _ _ _ _ _ _ us hl => match us, hl with | [_, _], _ => rfl) (fun cdv A outer s H E hr => ?_)
  exact (ssj_one (sj_ret (ej_and (ej_isi "tuple" (by decide +kernel) T.n_isinstance T.n_tuple (ej_var 1) (by decide +kernel)) (ej_one (ej_cmp (op_eqP (hu200 hr)) oEq_ok (ej_bi call_len oLen_ok T.n_len (aj_cons (ej_var 1) aj_nil) (by decide +kernel)) (ej_var 0))))))
abbrev N_is_number : List Str := ["value"]
theorem S_is_number : FnScope ["value"] ["value"] (defScope (top 7)) := ⟨rfl, rfl, rfl, by decide +kernel, rfl, by decide +kernel, by decide +kernel⟩
theorem c_is_number (T : Txt K mg) (hf : mg "is_number" = some (.ref (He.ga K "is_number"))) (F : FnP K "is_number" 7)  : CalM P w K mg base 1 "is_number" 1 m_is_number := by
  obtain ⟨fd, F⟩ := F
  refine cal_ok false (k := 0) hf F S_is_number (fun _ _ _ _ _ _ us hl => match us, hl with | [_], _ => rfl) (fun cdv A outer s H E hr => ?_)
  exact (ssj_one (sj_ret (ej_and (ej_isi "int" (by decide +kernel) T.n_isinstance T.n_int (ej_var 0) (by decide +kernel)) (ej_and (ej_notT (ej_isi "bool" (by decide +kernel) T.n_isinstance T.n_bool (ej_var 0) (by decide +kernel))) (ej_one (ej_chain op_le qLe op_le qLe (ej_neg (ej_gint T.i_GREATEST)) (ej_var 0) (ej_gint T.i_GREATEST)))))))
abbrev N_is_fraction : List Str := ["value"]
theorem S_is_fraction : FnScope ["value"] ["value"] (defScope (top 16)) := ⟨rfl, rfl, rfl, by decide +kernel, rfl, by decide +kernel, by decide +kernel⟩
theorem c_is_fraction (T : Txt K mg) (hf : mg "is_fraction" = some (.ref (He.ga K "is_fraction"))) (F : FnP K "is_fraction" 16) (c_is_number : CalM P w K mg base 1 "is_number" 1 m_is_number) (c_is_row : CalM P w K mg base 1 "is_row" 2 m_is_row) : CalM P w K mg base 2 "is_fraction" 1 m_is_fraction := by
  obtain ⟨fd, F⟩ := F
  refine cal_ok false (k := 1) hf F S_is_fraction (fun _ _ _ _ _ _ us hl => match us, hl with | [_], _ => rfl) (fun cdv A outer s H E hr => ?_)
  exact (ssj_cons (sj_if (tj_w (wj_or (tj_not (tj_tru (ej_call (c_is_row.mono (by decide)) hr (aj_cons ej_int (aj_cons (ej_var 0) aj_nil))))) (wj_or (tj_not (tj_tru (ej_call (c_is_number.mono (by decide)) hr (aj_cons (ej_item (ej_var 0) ej_int) aj_nil)))) (wj_or1 (tj_not (tj_tru (ej_call (c_is_number.mono (by decide)) hr (aj_cons (ej_item (ej_var 0) ej_int) aj_nil)))))))) (ssj_one (sj_ret ej_bl)) ssj_nil)
    (ssj_one (sj_ret (ej_and (ej_cmp op_gt qGt (ej_item (ej_var 0) ej_int) ej_int) (ej_one (ej_cmp (op_eqP (hu200 hr)) oEq_ok (ej_bif cr_gcd oGcd_ok T.g_gcd (aj_cons (ej_item (ej_var 0) ej_int) (aj_cons (ej_item (ej_var 0) ej_int) aj_nil))) ej_int))))))
abbrev N_check_fraction : List Str := ["value"]
theorem S_check_fraction : FnScope ["value"] ["value"] (defScope (top 17)) := ⟨rfl, rfl, rfl, by decide +kernel, rfl, by decide +kernel, by decide +kernel⟩
theorem c_check_fraction (T : Txt K mg) (hf : mg "check_fraction" = some (.ref (He.ga K "check_fraction"))) (F : FnP K "check_fraction" 17) (c_is_fraction : CalM P w K mg base 2 "is_fraction" 1 m_is_fraction) : CalM P w K mg base 3 "check_fraction" 1 m_check_fraction := by
  obtain ⟨fd, F⟩ := F
  refine cal_ok false (k := 2) hf F S_check_fraction (fun _ _ _ _ _ _ us hl => match us, hl with | [_], _ => rfl) (fun cdv A outer s H E hr => ?_)
  exact (ssj_one (sj_if (tj_not (tj_tru (ej_call (c_is_fraction.mono (by decide)) hr (aj_cons (ej_var 0) aj_nil)))) (ssj_one sj_never) ssj_nil))
abbrev N_check_both : List Str := ["one", "other"]
theorem S_check_both : FnScope ["one", "other"] ["one", "other"] (defScope (top 18)) := ⟨rfl, rfl, rfl, by decide +kernel, rfl, by decide +kernel, by decide +kernel⟩
theorem c_check_both (T : Txt K mg) (hf : mg "check_both" = some (.ref (He.ga K "check_both"))) (F : FnP K "check_both" 18) (c_check_fraction : CalM P w K mg base 3 "check_fraction" 1 m_check_fraction) : CalM P w K mg base 4 "check_both" 2 m_check_both := by
  obtain ⟨fd, F⟩ := F
  refine cal_ok false (k := 3) hf F S_check_both (fun _ _ _ _ _ _ us hl => match us, hl with | [_, _], _ => rfl) (fun cdv A outer s H E hr => ?_)
  exact (ssj_cons (sj_expr (ej_call (c_check_fraction.mono (by decide)) hr (aj_cons (ej_var 0) aj_nil)))
    (ssj_one (sj_expr (ej_call (c_check_fraction.mono (by decide)) hr (aj_cons (ej_var 1) aj_nil)))))
abbrev N_whole_of : List Str := ["one"]
theorem S_whole_of : FnScope ["one"] ["one"] (defScope (top 13)) := ⟨rfl, rfl, rfl, by decide +kernel, rfl, by decide +kernel, by decide +kernel⟩
theorem c_whole_of (T : Txt K mg) (hf : mg "whole_of" = some (.ref (He.ga K "whole_of"))) (F : FnP K "whole_of" 13)  : CalM P w K mg base 1 "whole_of" 1 m_whole_of := by
  obtain ⟨fd, F⟩ := F
  refine cal_ok false (k := 0) hf F S_whole_of (fun _ _ _ _ _ _ us hl => match us, hl with | [_], _ => rfl) (fun cdv A outer s H E hr => ?_)
  exact (ssj_one (sj_ret (ej_div (ej_item (ej_var 0) ej_int) (ej_item (ej_var 0) ej_int))))
abbrev N_turned_over : List Str := ["one"]
theorem S_turned_over : FnScope ["one"] ["one"] (defScope (top 22)) := ⟨rfl, rfl, rfl, by decide +kernel, rfl, by decide +kernel, by decide +kernel⟩
theorem c_turned_over (T : Txt K mg) (hf : mg "turned_over" = some (.ref (He.ga K "turned_over"))) (F : FnP K "turned_over" 22)  : CalM P w K mg base 1 "turned_over" 1 m_turned_over := by
  obtain ⟨fd, F⟩ := F
  refine cal_ok false (k := 0) hf F S_turned_over (fun _ _ _ _ _ _ us hl => match us, hl with | [_], _ => rfl) (fun cdv A outer s H E hr => ?_)
  exact (ssj_one (sj_ret (ej_tup (aj_cons (ej_item (ej_var 0) ej_int) (aj_cons (ej_item (ej_var 0) ej_int) aj_nil)))))
abbrev N_reduced : List Str := ["top", "bottom", "common"]
theorem S_reduced : FnScope ["top", "bottom", "common"] ["top", "bottom"] (defScope (top 11)) := ⟨rfl, rfl, rfl, by decide +kernel, rfl, by decide +kernel, by decide +kernel⟩
theorem c_reduced (T : Txt K mg) (hf : mg "reduced" = some (.ref (He.ga K "reduced"))) (F : FnP K "reduced" 11)  : CalM P w K mg base 1 "reduced" 2 m_reduced := by
  obtain ⟨fd, F⟩ := F
  refine cal_ok false (k := 0) hf F S_reduced (fun _ _ _ _ _ _ us hl => match us, hl with | [_, _], _ => rfl) (fun cdv A outer s H E hr => ?_)
  exact (ssj_cons (sj_set (i := 2) S_reduced.nd (ej_bif cr_gcd oGcd_ok T.g_gcd (aj_cons (ej_var 0) (aj_cons (ej_var 1) aj_nil))))
    (ssj_cons (sj_if (tj_cmp op_lt qLt (ej_var 1) ej_int) (ssj_one (sj_set (i := 2) S_reduced.nd (ej_neg (ej_var 2)))) ssj_nil)
    (ssj_one (sj_ret (ej_tup (aj_cons (ej_div (ej_var 0) (ej_var 2)) (aj_cons (ej_div (ej_var 1) (ej_var 2)) aj_nil)))))))
abbrev N_rest_of : List Str := ["one"]
theorem S_rest_of : FnScope ["one"] ["one"] (defScope (top 14)) := ⟨rfl, rfl, rfl, by decide +kernel, rfl, by decide +kernel, by decide +kernel⟩
theorem c_rest_of (T : Txt K mg) (hf : mg "rest_of" = some (.ref (He.ga K "rest_of"))) (F : FnP K "rest_of" 14) (c_reduced : CalM P w K mg base 1 "reduced" 2 m_reduced) (c_whole_of : CalM P w K mg base 1 "whole_of" 1 m_whole_of) : CalM P w K mg base 2 "rest_of" 1 m_rest_of := by
  obtain ⟨fd, F⟩ := F
  refine cal_ok false (k := 1) hf F S_rest_of (fun _ _ _ _ _ _ us hl => match us, hl with | [_], _ => rfl) (fun cdv A outer s H E hr => ?_)
  exact (ssj_one (sj_ret (ej_call (c_reduced.mono (by decide)) hr (aj_cons (ej_sub (ej_item (ej_var 0) ej_int) (ej_mul (ej_call (c_whole_of.mono (by decide)) hr (aj_cons (ej_var 0) aj_nil)) (ej_item (ej_var 0) ej_int))) (aj_cons (ej_item (ej_var 0) ej_int) aj_nil)))))
abbrev N_simplest_above : List Str := ["low", "high", "wholes", "top", "bottom", "part"]
theorem S_simplest_above : FnScope ["low", "high", "wholes", "top", "bottom", "part"] ["low", "high"] (defScope (top 21)) := ⟨rfl, rfl, rfl, by decide +kernel, rfl, by decide +kernel, by decide +kernel⟩
theorem c_simplest_above (T : Txt K mg) (hf : mg "simplest_above" = some (.ref (He.ga K "simplest_above"))) (F : FnP K "simplest_above" 21) (c_rest_of : CalM P w K mg base 2 "rest_of" 1 m_rest_of) (c_turned_over : CalM P w K mg base 1 "turned_over" 1 m_turned_over) (c_whole_of : CalM P w K mg base 1 "whole_of" 1 m_whole_of) : CalM P w K mg base 3 "simplest_above" 2 m_simplest_above := by
  obtain ⟨fd, F⟩ := F
  refine cal_ok false (k := 2) hf F S_simplest_above (fun _ _ _ _ _ _ us hl => match us, hl with | [_, _], _ => rfl) (fun cdv A outer s H E hr => ?_)
  exact (ssj_cons (sj_set (i := 2) S_simplest_above.nd (ej_lstC aj_nil))
    (ssj_cons (sj_while FUEL PassesOwn.never (tj_w (wj_and (tj_cmp op_gt qGt (ej_item (ej_var 0) ej_int) ej_int) (wj_and1 (tj_cmp (op_eqP (hu200 hr)) oEq_ok (ej_call (c_whole_of.mono (by decide)) hr (aj_cons (ej_var 0) aj_nil)) (ej_call (c_whole_of.mono (by decide)) hr (aj_cons (ej_var 1) aj_nil)))))) (ssj_cons (sj_app (ej_var 2) (ej_call (c_whole_of.mono (by decide)) hr (aj_cons (ej_var 0) aj_nil)))
    (ssj_one (sj_par (i := 0) (j := 1) rfl S_simplest_above.nd (by decide) (aj_cons (ej_call (c_turned_over.mono (by decide)) hr (aj_cons (ej_call (c_rest_of.mono (by decide)) hr (aj_cons (ej_var 1) aj_nil)) aj_nil)) (aj_cons (ej_call (c_turned_over.mono (by decide)) hr (aj_cons (ej_call (c_rest_of.mono (by decide)) hr (aj_cons (ej_var 0) aj_nil)) aj_nil)) aj_nil))))))
    (ssj_cons (sj_par (i := 3) (j := 4) rfl S_simplest_above.nd (by decide) (aj_cons (ej_neg (ej_div (ej_neg (ej_item (ej_var 0) ej_int)) (ej_item (ej_var 0) ej_int))) (aj_cons ej_int aj_nil)))
    (ssj_cons (sj_forR PassesOwn.never rfl (ij_revR T.n_reversed (ej_var 2)) (gj_nm 5 S_simplest_above.nd) (ssj_one (sj_par (i := 3) (j := 4) rfl S_simplest_above.nd (by decide) (aj_cons (ej_add (ej_mul (ej_var 5) (ej_var 3)) (ej_var 4)) (aj_cons (ej_var 3) aj_nil)))))
    (ssj_one (sj_ret (ej_tup (aj_cons (ej_var 3) (aj_cons (ej_var 4) aj_nil)))))))))
abbrev N_simplest_between : List Str := ["low", "high", "top", "bottom"]
theorem S_simplest_between : FnScope ["low", "high", "top", "bottom"] ["low", "high"] (defScope (top 20)) := ⟨rfl, rfl, rfl, by decide +kernel, rfl, by decide +kernel, by decide +kernel⟩
theorem c_simplest_between (T : Txt K mg) (hf : mg "simplest_between" = some (.ref (He.ga K "simplest_between"))) (F : FnP K "simplest_between" 20) (c_simplest_above : CalM P w K mg base 3 "simplest_above" 2 m_simplest_above) : CalM P w K mg base 4 "simplest_between" 2 m_simplest_between := by
  obtain ⟨fd, F⟩ := F
  refine cal_ok false (k := 3) hf F S_simplest_between (fun _ _ _ _ _ _ us hl => match us, hl with | [_, _], _ => rfl) (fun cdv A outer s H E hr => ?_)
  exact (ssj_cons (sj_if (tj_chain op_le qLe op_le qLe (ej_item (ej_var 0) ej_int) ej_int (ej_item (ej_var 1) ej_int)) (ssj_one (sj_ret (ej_gtup T.t_ZERO.1 T.t_ZERO.2))) ssj_nil)
    (ssj_cons (sj_if (tj_cmp op_lt qLt (ej_item (ej_var 1) ej_int) ej_int) (ssj_cons (sj_asg (ej_call (c_simplest_above.mono (by decide)) hr (aj_cons (ej_tup (aj_cons (ej_neg (ej_item (ej_var 1) ej_int)) (aj_cons (ej_item (ej_var 1) ej_int) aj_nil))) (aj_cons (ej_tup (aj_cons (ej_neg (ej_item (ej_var 0) ej_int)) (aj_cons (ej_item (ej_var 0) ej_int) aj_nil))) aj_nil))) (gj_tp rfl (gjs_cons (gj_nm 2 S_simplest_between.nd) (gjs_cons (gj_nm 3 S_simplest_between.nd) gjs_nil)) (lCons_len (lCons_len lNil_len))))
    (ssj_one (sj_ret (ej_tup (aj_cons (ej_neg (ej_var 2)) (aj_cons (ej_var 3) aj_nil)))))) ssj_nil)
    (ssj_one (sj_ret (ej_call (c_simplest_above.mono (by decide)) hr (aj_cons (ej_var 0) (aj_cons (ej_var 1) aj_nil)))))))
abbrev N_order_of : List Str := ["one", "other", "left", "right"]
theorem S_order_of : FnScope ["one", "other", "left", "right"] ["one", "other"] (defScope (top 12)) := ⟨rfl, rfl, rfl, by decide +kernel, rfl, by decide +kernel, by decide +kernel⟩
theorem c_order_of (T : Txt K mg) (hf : mg "order_of" = some (.ref (He.ga K "order_of"))) (F : FnP K "order_of" 12)  : CalM P w K mg base 1 "order_of" 2 m_order_of := by
  obtain ⟨fd, F⟩ := F
  refine cal_ok false (k := 0) hf F S_order_of (fun _ _ _ _ _ _ us hl => match us, hl with | [_, _], _ => rfl) (fun cdv A outer s H E hr => ?_)
  exact (ssj_cons (sj_set (i := 2) S_order_of.nd (ej_mul (ej_item (ej_var 0) ej_int) (ej_item (ej_var 1) ej_int)))
    (ssj_cons (sj_set (i := 3) S_order_of.nd (ej_mul (ej_item (ej_var 1) ej_int) (ej_item (ej_var 0) ej_int)))
    (ssj_cons (sj_if (tj_cmp op_lt qLt (ej_var 2) (ej_var 3)) (ssj_one (sj_ret (ej_neg ej_int))) ssj_nil)
    (ssj_cons (sj_if (tj_cmp op_gt qGt (ej_var 2) (ej_var 3)) (ssj_one (sj_ret ej_int)) ssj_nil)
    (ssj_one (sj_ret ej_int))))))
abbrev N_simplest : List Str := ["low", "high"]
theorem S_simplest : FnScope ["low", "high"] ["low", "high"] (defScope (top 19)) := ⟨rfl, rfl, rfl, by decide +kernel, rfl, by decide +kernel, by decide +kernel⟩
theorem c_simplest (T : Txt K mg) (hf : mg "simplest" = some (.ref (He.ga K "simplest"))) (F : FnP K "simplest" 19) (c_check_both : CalM P w K mg base 4 "check_both" 2 m_check_both) (c_order_of : CalM P w K mg base 1 "order_of" 2 m_order_of) (c_simplest_between : CalM P w K mg base 4 "simplest_between" 2 m_simplest_between) : CalM P w K mg base 5 "simplest" 2 m_simplest := by
  obtain ⟨fd, F⟩ := F
  refine cal_ok false (k := 4) hf F S_simplest (fun _ _ _ _ _ _ us hl => match us, hl with | [_, _], _ => rfl) (fun cdv A outer s H E hr => ?_)
  exact (ssj_cons (sj_expr (ej_call (c_check_both.mono (by decide)) hr (aj_cons (ej_var 0) (aj_cons (ej_var 1) aj_nil))))
    (ssj_cons (sj_if (tj_cmp op_gt qGt (ej_call (c_order_of.mono (by decide)) hr (aj_cons (ej_var 0) (aj_cons (ej_var 1) aj_nil))) ej_int) (ssj_one sj_never) ssj_nil)
    (ssj_one (sj_ret (ej_call (c_simplest_between.mono (by decide)) hr (aj_cons (ej_var 0) (aj_cons (ej_var 1) aj_nil)))))))
abbrev N_steps_for : List Str := ["length", "most"]
theorem S_steps_for : FnScope ["length", "most"] ["length", "most"] (defScope (top 23)) := ⟨rfl, rfl, rfl, by decide +kernel, rfl, by decide +kernel, by decide +kernel⟩
theorem c_steps_for (T : Txt K mg) (hf : mg "steps_for" = some (.ref (He.ga K "steps_for"))) (F : FnP K "steps_for" 23) (c_check_both : CalM P w K mg base 4 "check_both" 2 m_check_both) : CalM P w K mg base 5 "steps_for" 2 m_steps_for := by
  obtain ⟨fd, F⟩ := F
  refine cal_ok false (k := 4) hf F S_steps_for (fun _ _ _ _ _ _ us hl => match us, hl with | [_, _], _ => rfl) (fun cdv A outer s H E hr => ?_)
  exact (ssj_cons (sj_expr (ej_call (c_check_both.mono (by decide)) hr (aj_cons (ej_var 0) (aj_cons (ej_var 1) aj_nil))))
    (ssj_cons (sj_if (tj_w (wj_or (tj_cmp op_lt qLt (ej_item (ej_var 0) ej_int) ej_int) (wj_or1 (tj_cmp op_le qLe (ej_item (ej_var 1) ej_int) ej_int)))) (ssj_one sj_never) ssj_nil)
    (ssj_one (sj_ret (ej_neg (ej_div (ej_mul (ej_neg (ej_item (ej_var 0) ej_int)) (ej_item (ej_var 1) ej_int)) (ej_mul (ej_item (ej_var 0) ej_int) (ej_item (ej_var 1) ej_int))))))))
abbrev N__law_roll : List Str := ["dice", "most", "found", "one", "two"]
theorem S__law_roll : FnScope ["dice", "most", "found", "one", "two"] ["dice", "most"] (defScope (top 26)) := ⟨rfl, rfl, rfl, by decide +kernel, rfl, by decide +kernel, by decide +kernel⟩
theorem c__law_roll (T : Txt K mg) (hf : mg "_law_roll" = some (.ref (He.ga K "_law_roll"))) (F : FnP K "_law_roll" 26)  : CalM P w K mg base 1 "_law_roll" 2 m__law_roll := by
  obtain ⟨fd, F⟩ := F
  refine cal_ok false (k := 0) hf F S__law_roll (fun _ _ _ _ _ _ us hl => match us, hl with | [_, _], _ => rfl) (fun cdv A outer s H E hr => ?_)
  exact (ssj_cons (sj_if (tj_cmp op_gt qGt (ej_item (ej_var 0) ej_int) ej_int) (ssj_cons (sj_set (i := 2) S__law_roll.nd (ej_mod (ej_ty call_int1 oInt_ok T.n_int (aj_cons (ej_item (ej_var 0) ej_int) aj_nil) (by decide +kernel)) (ej_var 1)))
    (ssj_cons (sj_sub (ej_div (ej_item (ej_var 0) ej_int) (ej_var 1)) (ej_var 0) ej_int)
    (ssj_one (sj_ret (ej_var 2))))) ssj_nil)
    (ssj_cons (sj_sub (ej_add (ej_item (ej_var 0) ej_int) ej_int) (ej_var 0) ej_int)
    (ssj_cons (sj_set (i := 3) S__law_roll.nd (ej_mod (ej_ty call_int1 oInt_ok T.n_int (aj_cons (ej_add (ej_item (ej_var 0) ej_int) (ej_mul ej_int (ej_item (ej_var 0) ej_int))) aj_nil) (by decide +kernel)) ej_int))
    (ssj_cons (sj_set (i := 4) S__law_roll.nd (ej_add (ej_mul (ej_mod (ej_ty call_int1 oInt_ok T.n_int (aj_cons (ej_add (ej_mul (ej_var 3) (ej_var 3)) (ej_mul ej_int (ej_item (ej_var 0) ej_int))) aj_nil) (by decide +kernel)) ej_int) ej_int) (ej_var 3)))
    (ssj_one (sj_ret (ej_mod (ej_ty call_int1 oInt_ok T.n_int (aj_cons (ej_div (ej_var 4) ej_int) aj_nil) (by decide +kernel)) (ej_var 1))))))))
abbrev N__law_pick : List Str := ["dice", "items"]
theorem S__law_pick : FnScope ["dice", "items"] ["dice", "items"] (defScope (top 27)) := ⟨rfl, rfl, rfl, by decide +kernel, rfl, by decide +kernel, by decide +kernel⟩
theorem c__law_pick (T : Txt K mg) (hf : mg "_law_pick" = some (.ref (He.ga K "_law_pick"))) (F : FnP K "_law_pick" 27) (c__law_roll : CalM P w K mg base 1 "_law_roll" 2 m__law_roll) : CalM P w K mg base 2 "_law_pick" 2 m__law_pick := by
  obtain ⟨fd, F⟩ := F
  refine cal_ok false (k := 1) hf F S__law_pick (fun _ _ _ _ _ _ us hl => match us, hl with | [_, _], _ => rfl) (fun cdv A outer s H E hr => ?_)
  exact (ssj_one (sj_ret (ej_item (ej_var 1) (ej_call (c__law_roll.mono (by decide)) hr (aj_cons (ej_var 0) (aj_cons (ej_bi call_len oLen_ok T.n_len (aj_cons (ej_var 1) aj_nil) (by decide +kernel)) aj_nil))))))
abbrev N__law_fr_low : List Str := ["top", "bottom", "one", "other", "sign"]
theorem S__law_fr_low : FnScope ["top", "bottom", "one", "other", "sign"] ["top", "bottom"] (defScope (top 28)) := ⟨rfl, rfl, rfl, by decide +kernel, rfl, by decide +kernel, by decide +kernel⟩
theorem c__law_fr_low (T : Txt K mg) (hf : mg "_law_fr_low" = some (.ref (He.ga K "_law_fr_low"))) (F : FnP K "_law_fr_low" 28)  : CalM P w K mg base 1 "_law_fr_low" 2 m__law_fr_low := by
  obtain ⟨fd, F⟩ := F
  refine cal_ok false (k := 0) hf F S__law_fr_low (fun _ _ _ _ _ _ us hl => match us, hl with | [_, _], _ => rfl) (fun cdv A outer s H E hr => ?_)
  exact (ssj_cons (sj_par (i := 2) (j := 3) rfl S__law_fr_low.nd (by decide) (aj_cons (ej_bi call_abs oAbs_ok T.n_abs (aj_cons (ej_var 0) aj_nil) (by decide +kernel)) (aj_cons (ej_bi call_abs oAbs_ok T.n_abs (aj_cons (ej_var 1) aj_nil) (by decide +kernel)) aj_nil)))
    (ssj_cons (sj_while FUEL PassesOwn.never (tj_cmp (op_neP (hu200 hr)) oEq_ok (ej_var 3) ej_int) (ssj_one (sj_par (i := 2) (j := 3) rfl S__law_fr_low.nd (by decide) (aj_cons (ej_var 3) (aj_cons (ej_mod (ej_var 2) (ej_var 3)) aj_nil)))))
    (ssj_cons (sj_set (i := 4) S__law_fr_low.nd (ej_if (tj_cmp op_gt qGt (ej_var 1) ej_int) ej_int (ej_neg ej_int)))
    (ssj_one (sj_ret (ej_tup (aj_cons (ej_div (ej_mul (ej_var 4) (ej_var 0)) (ej_var 2)) (aj_cons (ej_div (ej_mul (ej_var 4) (ej_var 1)) (ej_var 2)) aj_nil))))))))
abbrev N__law_fr_drawn : List Str := ["dice", "top", "bottom"]
theorem S__law_fr_drawn : FnScope ["dice", "top", "bottom"] ["dice"] (defScope (top 31)) := ⟨rfl, rfl, rfl, by decide +kernel, rfl, by decide +kernel, by decide +kernel⟩
theorem c__law_fr_drawn (T : Txt K mg) (hf : mg "_law_fr_drawn" = some (.ref (He.ga K "_law_fr_drawn"))) (F : FnP K "_law_fr_drawn" 31) (c__law_fr_low : CalM P w K mg base 1 "_law_fr_low" 2 m__law_fr_low) (c__law_pick : CalM P w K mg base 2 "_law_pick" 2 m__law_pick) (c__law_roll : CalM P w K mg base 1 "_law_roll" 2 m__law_roll) : CalM P w K mg base 3 "_law_fr_drawn" 1 m__law_fr_drawn := by
  obtain ⟨fd, F⟩ := F
  refine cal_ok false (k := 2) hf F S__law_fr_drawn (fun _ _ _ _ _ _ us hl => match us, hl with | [_], _ => rfl) (fun cdv A outer s H E hr => ?_)
  exact (ssj_cons (sj_set (i := 1) S__law_fr_drawn.nd (ej_call (c__law_pick.mono (by decide)) hr (aj_cons (ej_var 0) (aj_cons (ej_lst (aj_cons ej_int (aj_cons ej_int (aj_cons ej_int (aj_cons ej_int (aj_cons (ej_call (c__law_roll.mono (by decide)) hr (aj_cons (ej_var 0) (aj_cons ej_int aj_nil))) (aj_cons (ej_call (c__law_roll.mono (by decide)) hr (aj_cons (ej_var 0) (aj_cons (ej_pow ej_int ej_int) aj_nil))) (aj_cons (ej_call (c__law_roll.mono (by decide)) hr (aj_cons (ej_var 0) (aj_cons (ej_pow ej_int ej_int) aj_nil))) aj_nil)))))))) aj_nil))))
    (ssj_cons (sj_set (i := 2) S__law_fr_drawn.nd (ej_add ej_int (ej_call (c__law_pick.mono (by decide)) hr (aj_cons (ej_var 0) (aj_cons (ej_lst (aj_cons ej_int (aj_cons ej_int (aj_cons ej_int (aj_cons ej_int (aj_cons (ej_call (c__law_roll.mono (by decide)) hr (aj_cons (ej_var 0) (aj_cons ej_int aj_nil))) (aj_cons (ej_call (c__law_roll.mono (by decide)) hr (aj_cons (ej_var 0) (aj_cons (ej_pow ej_int ej_int) aj_nil))) (aj_cons (ej_call (c__law_roll.mono (by decide)) hr (aj_cons (ej_var 0) (aj_cons (ej_pow ej_int ej_int) aj_nil))) aj_nil)))))))) aj_nil)))))
    (ssj_one (sj_ret (ej_call (c__law_fr_low.mono (by decide)) hr (aj_cons (ej_if (tj_cmp op_gt qGt (ej_call (c__law_roll.mono (by decide)) hr (aj_cons (ej_var 0) (aj_cons ej_int aj_nil))) ej_int) (ej_var 1) (ej_sub ej_int (ej_var 1))) (aj_cons (ej_var 2) aj_nil)))))))
abbrev N__law_fr_plus : List Str := ["one", "other"]
theorem S__law_fr_plus : FnScope ["one", "other"] ["one", "other"] (defScope (top 29)) := ⟨rfl, rfl, rfl, by decide +kernel, rfl, by decide +kernel, by decide +kernel⟩
theorem c__law_fr_plus (T : Txt K mg) (hf : mg "_law_fr_plus" = some (.ref (He.ga K "_law_fr_plus"))) (F : FnP K "_law_fr_plus" 29) (c__law_fr_low : CalM P w K mg base 1 "_law_fr_low" 2 m__law_fr_low) : CalM P w K mg base 2 "_law_fr_plus" 2 m__law_fr_plus := by
  obtain ⟨fd, F⟩ := F
  refine cal_ok false (k := 1) hf F S__law_fr_plus (fun _ _ _ _ _ _ us hl => match us, hl with | [_, _], _ => rfl) (fun cdv A outer s H E hr => ?_)
  exact (ssj_one (sj_ret (ej_call (c__law_fr_low.mono (by decide)) hr (aj_cons (ej_add (ej_mul (ej_item (ej_var 0) ej_int) (ej_item (ej_var 1) ej_int)) (ej_mul (ej_item (ej_var 1) ej_int) (ej_item (ej_var 0) ej_int))) (aj_cons (ej_mul (ej_item (ej_var 0) ej_int) (ej_item (ej_var 1) ej_int)) aj_nil)))))
abbrev N__law_fr_below : List Str := ["one", "other"]
theorem S__law_fr_below : FnScope ["one", "other"] ["one", "other"] (defScope (top 30)) := ⟨rfl, rfl, rfl, by decide +kernel, rfl, by decide +kernel, by decide +kernel⟩
theorem c__law_fr_below (T : Txt K mg) (hf : mg "_law_fr_below" = some (.ref (He.ga K "_law_fr_below"))) (F : FnP K "_law_fr_below" 30)  : CalM P w K mg base 1 "_law_fr_below" 2 m__law_fr_below := by
  obtain ⟨fd, F⟩ := F
  refine cal_ok false (k := 0) hf F S__law_fr_below (fun _ _ _ _ _ _ us hl => match us, hl with | [_, _], _ => rfl) (fun cdv A outer s H E hr => ?_)
  exact (ssj_one (sj_ret (ej_cmp op_lt qLt (ej_mul (ej_item (ej_var 0) ej_int) (ej_item (ej_var 1) ej_int)) (ej_mul (ej_item (ej_var 1) ej_int) (ej_item (ej_var 0) ej_int)))))
abbrev N__law_stretch : List Str := ["dice", "one", "other", "way"]
theorem S__law_stretch : FnScope ["dice", "one", "other", "way"] ["dice"] (defScope (top 33)) := ⟨rfl, rfl, rfl, by decide +kernel, rfl, by decide +kernel, by decide +kernel⟩
theorem c__law_stretch (T : Txt K mg) (hf : mg "_law_stretch" = some (.ref (He.ga K "_law_stretch"))) (F : FnP K "_law_stretch" 33) (c__law_fr_below : CalM P w K mg base 1 "_law_fr_below" 2 m__law_fr_below) (c__law_fr_drawn : CalM P w K mg base 3 "_law_fr_drawn" 1 m__law_fr_drawn) (c__law_fr_plus : CalM P w K mg base 2 "_law_fr_plus" 2 m__law_fr_plus) (c__law_roll : CalM P w K mg base 1 "_law_roll" 2 m__law_roll) : CalM P w K mg base 4 "_law_stretch" 1 m__law_stretch := by
  obtain ⟨fd, F⟩ := F
  refine cal_ok false (k := 3) hf F S__law_stretch (fun _ _ _ _ _ _ us hl => match us, hl with | [_], _ => rfl) (fun cdv A outer s H E hr => ?_)
  exact (ssj_cons (sj_par (i := 1) (j := 2) rfl S__law_stretch.nd (by decide) (aj_cons (ej_call (c__law_fr_drawn.mono (by decide)) hr (aj_cons (ej_var 0) aj_nil)) (aj_cons (ej_call (c__law_fr_drawn.mono (by decide)) hr (aj_cons (ej_var 0) aj_nil)) aj_nil)))
    (ssj_cons (sj_set (i := 3) S__law_stretch.nd (ej_call (c__law_roll.mono (by decide)) hr (aj_cons (ej_var 0) (aj_cons ej_int aj_nil))))
    (ssj_cons (sj_if (tj_cmp (op_eqP (hu200 hr)) oEq_ok (ej_var 3) ej_int) (ssj_one (sj_set (i := 2) S__law_stretch.nd (ej_var 1))) ssj_nil)
    (ssj_cons (sj_if (tj_cmp (op_eqP (hu200 hr)) oEq_ok (ej_var 3) ej_int) (ssj_one (sj_set (i := 2) S__law_stretch.nd (ej_call (c__law_fr_plus.mono (by decide)) hr (aj_cons (ej_var 1) (aj_cons (ej_tup (aj_cons ej_int (aj_cons (ej_add ej_int (ej_call (c__law_roll.mono (by decide)) hr (aj_cons (ej_var 0) (aj_cons (ej_pow ej_int ej_int) aj_nil)))) aj_nil))) aj_nil))))) ssj_nil)
    (ssj_cons (sj_if (tj_cmp op_ge qGe (ej_bi (call_max2 rfl) oMax2_ok T.n_max (aj_cons (ej_bi call_abs oAbs_ok T.n_abs (aj_cons (ej_item (ej_var 2) ej_int) aj_nil) (by decide +kernel)) (aj_cons (ej_item (ej_var 2) ej_int) aj_nil)) (by decide +kernel)) (ej_pow ej_int ej_int)) (ssj_one (sj_set (i := 2) S__law_stretch.nd (ej_var 1))) ssj_nil)
    (ssj_one (sj_ret (ej_if (tj_tru (ej_call (c__law_fr_below.mono (by decide)) hr (aj_cons (ej_var 2) (aj_cons (ej_var 1) aj_nil)))) (ej_tup (aj_cons (ej_var 2) (aj_cons (ej_var 1) aj_nil))) (ej_tup (aj_cons (ej_var 1) (aj_cons (ej_var 2) aj_nil)))))))))))
abbrev N__law_has_lesser : List Str := ["low", "high", "bottom", "less"]
theorem S__law_has_lesser : FnScope ["low", "high", "bottom", "less"] ["low", "high", "bottom"] (defScope (top 34)) := ⟨rfl, rfl, rfl, by decide +kernel, rfl, by decide +kernel, by decide +kernel⟩
theorem c__law_has_lesser (T : Txt K mg) (hf : mg "_law_has_lesser" = some (.ref (He.ga K "_law_has_lesser"))) (F : FnP K "_law_has_lesser" 34)  : CalM P w K mg base 1 "_law_has_lesser" 3 m__law_has_lesser := by
  obtain ⟨fd, F⟩ := F
  refine cal_ok false (k := 0) hf F S__law_has_lesser (fun _ _ _ _ _ _ us hl => match us, hl with | [_, _, _], _ => rfl) (fun cdv A outer s H E hr => ?_)
  exact (ssj_cons (sj_for PassesOwn.never rfl (ij_rg2 T.n_range ej_int (ej_var 2)) (gj_nm 3 S__law_has_lesser.nd) (ssj_one (sj_if (tj_cmp op_le qLe (ej_div (ej_sub (ej_add (ej_mul (ej_item (ej_var 0) ej_int) (ej_var 3)) (ej_item (ej_var 0) ej_int)) ej_int) (ej_item (ej_var 0) ej_int)) (ej_div (ej_mul (ej_item (ej_var 1) ej_int) (ej_var 3)) (ej_item (ej_var 1) ej_int))) (ssj_one (sj_ret ej_bl)) ssj_nil)))
    (ssj_one (sj_ret ej_bl)))
abbrev N__law_simplest : List Str := ["low", "high", "found", "floors", "up", "top", "bottom", "floor"]
theorem S__law_simplest : FnScope ["low", "high", "found", "floors", "up", "top", "bottom", "floor"] ["low", "high"] (defScope (top 32)) := ⟨rfl, rfl, rfl, by decide +kernel, rfl, by decide +kernel, by decide +kernel⟩
theorem c__law_simplest__R0 (T : Txt K mg) (hf : mg "_law_simplest" = some (.ref (He.ga K "_law_simplest"))) (F : FnP K "_law_simplest" 32)  : CalM P w K mg base 1 "_law_simplest" 2 m__law_simplest__R0 := by
  obtain ⟨fd, F⟩ := F
  refine cal_ok false (k := 0) hf F S__law_simplest (fun _ _ _ _ _ _ us hl => match us, hl with | [_, _], _ => rfl) (fun cdv A outer s H E hr => ?_)
  exact ssj_never
theorem c__law_simplest__R1 (T : Txt K mg) (hf : mg "_law_simplest" = some (.ref (He.ga K "_law_simplest"))) (F : FnP K "_law_simplest" 32) (c__law_fr_low : CalM P w K mg base 1 "_law_fr_low" 2 m__law_fr_low) (c__law_simplest__R0 : CalM P w K mg base 1 "_law_simplest" 2 m__law_simplest__R0) : CalM P w K mg base 2 "_law_simplest" 2 m__law_simplest__R1 := by
  obtain ⟨fd, F⟩ := F
  refine cal_ok false (k := 1) hf F S__law_simplest (fun _ _ _ _ _ _ us hl => match us, hl with | [_, _], _ => rfl) (fun cdv A outer s H E hr => ?_)
  exact (ssj_cons (sj_if (tj_chain op_le qLe op_le qLe (ej_item (ej_var 0) ej_int) ej_int (ej_item (ej_var 1) ej_int)) (ssj_one (sj_ret (ej_tup (aj_cons ej_int (aj_cons ej_int aj_nil))))) ssj_nil)
    (ssj_cons (sj_if (tj_cmp op_lt qLt (ej_item (ej_var 1) ej_int) ej_int) (ssj_cons (sj_set (i := 2) S__law_simplest.nd (ej_call (c__law_simplest__R0.mono (by decide)) hr (aj_cons (ej_tup (aj_cons (ej_sub ej_int (ej_item (ej_var 1) ej_int)) (aj_cons (ej_item (ej_var 1) ej_int) aj_nil))) (aj_cons (ej_tup (aj_cons (ej_sub ej_int (ej_item (ej_var 0) ej_int)) (aj_cons (ej_item (ej_var 0) ej_int) aj_nil))) aj_nil))))
    (ssj_one (sj_ret (ej_tup (aj_cons (ej_sub ej_int (ej_item (ej_var 2) ej_int)) (aj_cons (ej_item (ej_var 2) ej_int) aj_nil)))))) ssj_nil)
    (ssj_cons (sj_set (i := 3) S__law_simplest.nd (ej_lstC aj_nil))
    (ssj_cons (sj_while FUEL PassesOwn.never (tj_tru ej_bl) (ssj_cons (sj_set (i := 4) S__law_simplest.nd (ej_div (ej_sub (ej_add (ej_item (ej_var 0) ej_int) (ej_item (ej_var 0) ej_int)) ej_int) (ej_item (ej_var 0) ej_int)))
    (ssj_cons (sj_if (tj_cmp op_le qLe (ej_mul (ej_var 4) (ej_item (ej_var 1) ej_int)) (ej_item (ej_var 1) ej_int)) (ssj_one sj_break) ssj_nil)
    (ssj_cons (sj_app (ej_var 3) (ej_sub (ej_var 4) ej_int))
    (ssj_one (sj_par (i := 0) (j := 1) rfl S__law_simplest.nd (by decide) (aj_cons (ej_tup (aj_cons (ej_item (ej_var 1) ej_int) (aj_cons (ej_sub (ej_item (ej_var 1) ej_int) (ej_mul (ej_sub (ej_var 4) ej_int) (ej_item (ej_var 1) ej_int))) aj_nil))) (aj_cons (ej_tup (aj_cons (ej_item (ej_var 0) ej_int) (aj_cons (ej_sub (ej_item (ej_var 0) ej_int) (ej_mul (ej_sub (ej_var 4) ej_int) (ej_item (ej_var 0) ej_int))) aj_nil))) aj_nil))))))))
    (ssj_cons (sj_par (i := 5) (j := 6) rfl S__law_simplest.nd (by decide) (aj_cons (ej_var 4) (aj_cons ej_int aj_nil)))
    (ssj_cons (sj_for PassesOwn.never rfl (ij_seq (ej_rev (ej_var 3))) (gj_nm 7 S__law_simplest.nd) (ssj_one (sj_par (i := 5) (j := 6) rfl S__law_simplest.nd (by decide) (aj_cons (ej_add (ej_mul (ej_var 7) (ej_var 5)) (ej_var 6)) (aj_cons (ej_var 5) aj_nil)))))
    (ssj_one (sj_ret (ej_call (c__law_fr_low.mono (by decide)) hr (aj_cons (ej_var 5) (aj_cons (ej_var 6) aj_nil)))))))))))
theorem c__law_simplest (T : Txt K mg) (hf : mg "_law_simplest" = some (.ref (He.ga K "_law_simplest"))) (F : FnP K "_law_simplest" 32) (c__law_fr_low : CalM P w K mg base 1 "_law_fr_low" 2 m__law_fr_low) (c__law_simplest__R1 : CalM P w K mg base 2 "_law_simplest" 2 m__law_simplest__R1) : CalM P w K mg base 3 "_law_simplest" 2 m__law_simplest := by
  obtain ⟨fd, F⟩ := F
  refine cal_ok false (k := 2) hf F S__law_simplest (fun _ _ _ _ _ _ us hl => match us, hl with | [_, _], _ => rfl) (fun cdv A outer s H E hr => ?_)
  exact (ssj_cons (sj_if (tj_chain op_le qLe op_le qLe (ej_item (ej_var 0) ej_int) ej_int (ej_item (ej_var 1) ej_int)) (ssj_one (sj_ret (ej_tup (aj_cons ej_int (aj_cons ej_int aj_nil))))) ssj_nil)
    (ssj_cons (sj_if (tj_cmp op_lt qLt (ej_item (ej_var 1) ej_int) ej_int) (ssj_cons (sj_set (i := 2) S__law_simplest.nd (ej_call (c__law_simplest__R1.mono (by decide)) hr (aj_cons (ej_tup (aj_cons (ej_sub ej_int (ej_item (ej_var 1) ej_int)) (aj_cons (ej_item (ej_var 1) ej_int) aj_nil))) (aj_cons (ej_tup (aj_cons (ej_sub ej_int (ej_item (ej_var 0) ej_int)) (aj_cons (ej_item (ej_var 0) ej_int) aj_nil))) aj_nil))))
    (ssj_one (sj_ret (ej_tup (aj_cons (ej_sub ej_int (ej_item (ej_var 2) ej_int)) (aj_cons (ej_item (ej_var 2) ej_int) aj_nil)))))) ssj_nil)
    (ssj_cons (sj_set (i := 3) S__law_simplest.nd (ej_lstC aj_nil))
    (ssj_cons (sj_while FUEL PassesOwn.never (tj_tru ej_bl) (ssj_cons (sj_set (i := 4) S__law_simplest.nd (ej_div (ej_sub (ej_add (ej_item (ej_var 0) ej_int) (ej_item (ej_var 0) ej_int)) ej_int) (ej_item (ej_var 0) ej_int)))
    (ssj_cons (sj_if (tj_cmp op_le qLe (ej_mul (ej_var 4) (ej_item (ej_var 1) ej_int)) (ej_item (ej_var 1) ej_int)) (ssj_one sj_break) ssj_nil)
    (ssj_cons (sj_app (ej_var 3) (ej_sub (ej_var 4) ej_int))
    (ssj_one (sj_par (i := 0) (j := 1) rfl S__law_simplest.nd (by decide) (aj_cons (ej_tup (aj_cons (ej_item (ej_var 1) ej_int) (aj_cons (ej_sub (ej_item (ej_var 1) ej_int) (ej_mul (ej_sub (ej_var 4) ej_int) (ej_item (ej_var 1) ej_int))) aj_nil))) (aj_cons (ej_tup (aj_cons (ej_item (ej_var 0) ej_int) (aj_cons (ej_sub (ej_item (ej_var 0) ej_int) (ej_mul (ej_sub (ej_var 4) ej_int) (ej_item (ej_var 0) ej_int))) aj_nil))) aj_nil))))))))
    (ssj_cons (sj_par (i := 5) (j := 6) rfl S__law_simplest.nd (by decide) (aj_cons (ej_var 4) (aj_cons ej_int aj_nil)))
    (ssj_cons (sj_for PassesOwn.never rfl (ij_seq (ej_rev (ej_var 3))) (gj_nm 7 S__law_simplest.nd) (ssj_one (sj_par (i := 5) (j := 6) rfl S__law_simplest.nd (by decide) (aj_cons (ej_add (ej_mul (ej_var 7) (ej_var 5)) (ej_var 6)) (aj_cons (ej_var 5) aj_nil)))))
    (ssj_one (sj_ret (ej_call (c__law_fr_low.mono (by decide)) hr (aj_cons (ej_var 5) (aj_cons (ej_var 6) aj_nil)))))))))))
abbrev N__law_right : List Str := ["dice", "low", "high", "found", "length", "most", "long", "step", "times", "whole_length"]
theorem S__law_right : FnScope ["dice", "low", "high", "found", "length", "most", "long", "step", "times", "whole_length"] ["dice"] (defScope (top 35)) := ⟨rfl, rfl, rfl, by decide +kernel, rfl, by decide +kernel, by decide +kernel⟩
theorem c__law_right (T : Txt K mg) (hf : mg "_law_right" = some (.ref (He.ga K "_law_right"))) (F : FnP K "_law_right" 35) (c__law_fr_below : CalM P w K mg base 1 "_law_fr_below" 2 m__law_fr_below) (c__law_fr_drawn : CalM P w K mg base 3 "_law_fr_drawn" 1 m__law_fr_drawn) (c__law_fr_low : CalM P w K mg base 1 "_law_fr_low" 2 m__law_fr_low) (c__law_has_lesser : CalM P w K mg base 1 "_law_has_lesser" 3 m__law_has_lesser) (c__law_roll : CalM P w K mg base 1 "_law_roll" 2 m__law_roll) (c__law_simplest : CalM P w K mg base 3 "_law_simplest" 2 m__law_simplest) (c__law_stretch : CalM P w K mg base 4 "_law_stretch" 1 m__law_stretch) (c_simplest : CalM P w K mg base 5 "simplest" 2 m_simplest) (c_steps_for : CalM P w K mg base 5 "steps_for" 2 m_steps_for) : CalM P w K mg base 6 "_law_right" 1 m__law_right := by
  obtain ⟨fd, F⟩ := F
  refine cal_ok false (k := 5) hf F S__law_right (fun _ _ _ _ _ _ us hl => match us, hl with | [_], _ => rfl) (fun cdv A outer s H E hr => ?_)
  exact (ssj_cons (sj_asg (ej_call (c__law_stretch.mono (by decide)) hr (aj_cons (ej_var 0) aj_nil)) (gj_tp rfl (gjs_cons (gj_nm 1 S__law_right.nd) (gjs_cons (gj_nm 2 S__law_right.nd) gjs_nil)) (lCons_len (lCons_len lNil_len))))
    (ssj_cons (sj_set (i := 3) S__law_right.nd (ej_call (c_simplest.mono (by decide)) hr (aj_cons (ej_var 1) (aj_cons (ej_var 2) aj_nil))))
    (ssj_cons (sj_if (tj_w (wj_or (tj_cmp (op_neP (hu200 hr)) oEq_ok (ej_var 3) (ej_call (c__law_simplest.mono (by decide)) hr (aj_cons (ej_var 1) (aj_cons (ej_var 2) aj_nil)))) (wj_or (tj_tru (ej_call (c__law_fr_below.mono (by decide)) hr (aj_cons (ej_var 3) (aj_cons (ej_var 1) aj_nil)))) (wj_or1 (tj_tru (ej_call (c__law_fr_below.mono (by decide)) hr (aj_cons (ej_var 2) (aj_cons (ej_var 3) aj_nil)))))))) (ssj_one (sj_ret ej_bl)) ssj_nil)
    (ssj_cons (sj_if (tj_w (wj_and (tj_cmp op_lt qLt (ej_item (ej_var 3) ej_int) ej_int) (wj_and1 (tj_tru (ej_call (c__law_has_lesser.mono (by decide)) hr (aj_cons (ej_var 1) (aj_cons (ej_var 2) (aj_cons (ej_item (ej_var 3) ej_int) aj_nil)))))))) (ssj_one (sj_ret ej_bl)) ssj_nil)
    (ssj_cons (sj_par (i := 4) (j := 5) rfl S__law_right.nd (by decide) (aj_cons (ej_call (c__law_fr_drawn.mono (by decide)) hr (aj_cons (ej_var 0) aj_nil)) (aj_cons (ej_call (c__law_fr_drawn.mono (by decide)) hr (aj_cons (ej_var 0) aj_nil)) aj_nil)))
    (ssj_cons (sj_par (i := 4) (j := 5) rfl S__law_right.nd (by decide) (aj_cons (ej_tup (aj_cons (ej_bi call_abs oAbs_ok T.n_abs (aj_cons (ej_item (ej_var 4) ej_int) aj_nil) (by decide +kernel)) (aj_cons (ej_item (ej_var 4) ej_int) aj_nil))) (aj_cons (ej_tup (aj_cons (ej_bi (call_max2 rfl) oMax2_ok T.n_max (aj_cons ej_int (aj_cons (ej_bi call_abs oAbs_ok T.n_abs (aj_cons (ej_item (ej_var 5) ej_int) aj_nil) (by decide +kernel)) aj_nil)) (by decide +kernel)) (aj_cons (ej_if (tj_cmp (op_neP (hu200 hr)) oEq_ok (ej_item (ej_var 5) ej_int) ej_int) (ej_item (ej_var 5) ej_int) ej_int) aj_nil))) aj_nil)))
    (ssj_cons (sj_par (i := 6) (j := 7) rfl S__law_right.nd (by decide) (aj_cons (ej_mul (ej_item (ej_var 4) ej_int) (ej_item (ej_var 5) ej_int)) (aj_cons (ej_mul (ej_item (ej_var 4) ej_int) (ej_item (ej_var 5) ej_int)) aj_nil)))
    (ssj_cons (sj_if (tj_cmp (op_neP (hu200 hr)) oEq_ok (ej_call (c_steps_for.mono (by decide)) hr (aj_cons (ej_var 4) (aj_cons (ej_var 5) aj_nil))) (ej_div (ej_sub (ej_add (ej_var 6) (ej_var 7)) ej_int) (ej_var 7))) (ssj_one (sj_ret ej_bl)) ssj_nil)
    (ssj_cons (sj_set (i := 8) S__law_right.nd (ej_call (c__law_roll.mono (by decide)) hr (aj_cons (ej_var 0) (aj_cons ej_int aj_nil))))
    (ssj_cons (sj_set (i := 9) S__law_right.nd (ej_call (c__law_fr_low.mono (by decide)) hr (aj_cons (ej_mul (ej_item (ej_var 5) ej_int) (ej_var 8)) (aj_cons (ej_item (ej_var 5) ej_int) aj_nil))))
    (ssj_one (sj_ret (ej_or (ej_cmp op_ge qGe (ej_bi (cr_maxV rfl (hu200 hr)) oMaxV_ok T.n_max (aj_cons (ej_var 9) aj_nil) (by decide +kernel)) (ej_pow ej_int ej_int)) (ej_one (ej_cmp (op_eqP (hu200 hr)) oEq_ok (ej_call (c_steps_for.mono (by decide)) hr (aj_cons (ej_var 9) (aj_cons (ej_var 5) aj_nil))) (ej_var 8))))))))))))))))
abbrev N_law : List Str := ["script", "spot", "dice", "turn", "told"]
theorem S_law : FnScope ["script", "spot", "dice", "turn", "told"] ["script"] (defScope (top 36)) := ⟨rfl, rfl, rfl, by decide +kernel, rfl, by decide +kernel, by decide +kernel⟩
theorem law_fn {fd : FuncData} (T : Txt K mg) (F : FunD K "law" "law" (defArgs (top 36)) (defBody (top 36)) (defScope (top 36)) [] [] (He.ga K "law") fd) (c__law_dice : CalM P w K mg base 1 "_law_dice" 2 m__law_dice) (c__law_right : CalM P w K mg base 6 "_law_right" 1 m__law_right) (c_simplest : CalM P w K mg base 5 "simplest" 2 m_simplest) (c_steps_for : CalM P w K mg base 5 "steps_for" 2 m_steps_for) : FnOk P w K mg base CX0 7 (He.ga K "law") fd ["script"] (spM K 1 m_law) := by
  refine fn_ok false (k := 6) F S_law (fun cdv A outer s H E hr => ?_)
  exact (ssj_cons (sj_for PassesOwn.never rfl (ij_rg1 T.n_range (ej_bi (call_max2 rfl) oMax2_ok T.n_max (aj_cons ej_int (aj_cons (ej_bi (call_min2 rfl) oMin2_ok T.n_min (aj_cons ej_int (aj_cons (ej_bi call_len oLen_ok T.n_len (aj_cons (ej_var 0) aj_nil) (by decide +kernel)) aj_nil)) (by decide +kernel)) aj_nil)) (by decide +kernel))) (gj_nm 1 S_law.nd) (ssj_cons (sj_set (i := 2) S_law.nd (ej_call (c__law_dice.mono (by decide)) hr (aj_cons (ej_var 0) (aj_cons (ej_var 1) aj_nil))))
    (ssj_one (sj_for PassesOwn.never rfl (ij_rg1 T.n_range ej_int) (gj_nm 3 S_law.nd) (ssj_one (sj_if (tj_not (tj_tru (ej_call (c__law_right.mono (by decide)) hr (aj_cons (ej_var 2) aj_nil)))) (ssj_one (sj_ret ej_bl)) ssj_nil))))))
    (ssj_cons (sj_set (i := 4) S_law.nd (ej_lst (aj_cons (ej_call (c_simplest.mono (by decide)) hr (aj_cons (ej_tup (aj_cons ej_int (aj_cons ej_int aj_nil))) (aj_cons (ej_tup (aj_cons ej_int (aj_cons ej_int aj_nil))) aj_nil))) (aj_cons (ej_call (c_simplest.mono (by decide)) hr (aj_cons (ej_tup (aj_cons (ej_neg ej_int) (aj_cons ej_int aj_nil))) (aj_cons (ej_tup (aj_cons (ej_neg ej_int) (aj_cons ej_int aj_nil))) aj_nil))) (aj_cons (ej_call (c_simplest.mono (by decide)) hr (aj_cons (ej_tup (aj_cons (ej_neg ej_int) (aj_cons ej_int aj_nil))) (aj_cons (ej_tup (aj_cons ej_int (aj_cons ej_int aj_nil))) aj_nil))) (aj_cons (ej_call (c_simplest.mono (by decide)) hr (aj_cons (ej_tup (aj_cons ej_int (aj_cons ej_int aj_nil))) (aj_cons (ej_tup (aj_cons ej_int (aj_cons ej_int aj_nil))) aj_nil))) aj_nil))))))
    (ssj_cons (sj_set (i := 4) S_law.nd (ej_add (ej_var 4) (ej_lst (aj_cons (ej_call (c_simplest.mono (by decide)) hr (aj_cons (ej_tup (aj_cons ej_int (aj_cons ej_int aj_nil))) (aj_cons (ej_tup (aj_cons ej_int (aj_cons ej_int aj_nil))) aj_nil))) (aj_cons (ej_call (c_simplest.mono (by decide)) hr (aj_cons (ej_tup (aj_cons ej_int (aj_cons ej_int aj_nil))) (aj_cons (ej_tup (aj_cons ej_int (aj_cons ej_int aj_nil))) aj_nil))) (aj_cons (ej_call (c_steps_for.mono (by decide)) hr (aj_cons (ej_tup (aj_cons ej_int (aj_cons ej_int aj_nil))) (aj_cons (ej_tup (aj_cons ej_int (aj_cons ej_int aj_nil))) aj_nil))) (aj_cons (ej_call (c_steps_for.mono (by decide)) hr (aj_cons (ej_tup (aj_cons ej_int (aj_cons ej_int aj_nil))) (aj_cons (ej_tup (aj_cons ej_int (aj_cons ej_int aj_nil))) aj_nil))) aj_nil)))))))
    (ssj_one (sj_ret (ej_cmp (op_eqP (hu200 hr)) oEq_ok (ej_var 4) (ej_lst (aj_cons (ej_tup (aj_cons ej_int (aj_cons ej_int aj_nil))) (aj_cons (ej_tup (aj_cons (ej_neg ej_int) (aj_cons ej_int aj_nil))) (aj_cons (ej_tup (aj_cons ej_int (aj_cons ej_int aj_nil))) (aj_cons (ej_tup (aj_cons ej_int (aj_cons ej_int aj_nil))) (aj_cons (ej_tup (aj_cons ej_int (aj_cons ej_int aj_nil))) (aj_cons (ej_tup (aj_cons ej_int (aj_cons ej_int aj_nil))) (aj_cons ej_int (aj_cons ej_int aj_nil)))))))))))))))
end
end MR
end
section
set_option Elab.async false
set_option linter.all false
set_option maxRecDepth 100000
set_option maxHeartbeats 0
namespace MR
open PySem PySem.Spec PyProof.Rows L2 VL
def d__law_dice : He.DefD := ⟨("_law_dice", none), "_law_dice", "_law_dice", defArgs (top 25), defBody (top 25), defScope (top 25), [], []⟩
def d_is_row : He.DefD := ⟨("is_row", none), "is_row", "is_row", defArgs (top 8), defBody (top 8), defScope (top 8), [], []⟩
def d_is_number : He.DefD := ⟨("is_number", none), "is_number", "is_number", defArgs (top 7), defBody (top 7), defScope (top 7), [], []⟩
def d_is_fraction : He.DefD := ⟨("is_fraction", none), "is_fraction", "is_fraction", defArgs (top 16), defBody (top 16), defScope (top 16), [], []⟩
def d_check_fraction : He.DefD := ⟨("check_fraction", none), "check_fraction", "check_fraction", defArgs (top 17), defBody (top 17), defScope (top 17), [], []⟩
def d_check_both : He.DefD := ⟨("check_both", none), "check_both", "check_both", defArgs (top 18), defBody (top 18), defScope (top 18), [], []⟩
def d_whole_of : He.DefD := ⟨("whole_of", none), "whole_of", "whole_of", defArgs (top 13), defBody (top 13), defScope (top 13), [], []⟩
def d_turned_over : He.DefD := ⟨("turned_over", none), "turned_over", "turned_over", defArgs (top 22), defBody (top 22), defScope (top 22), [], []⟩
def d_reduced : He.DefD := ⟨("reduced", none), "reduced", "reduced", defArgs (top 11), defBody (top 11), defScope (top 11), [], []⟩
def d_rest_of : He.DefD := ⟨("rest_of", none), "rest_of", "rest_of", defArgs (top 14), defBody (top 14), defScope (top 14), [], []⟩
def d_simplest_above : He.DefD := ⟨("simplest_above", none), "simplest_above", "simplest_above", defArgs (top 21), defBody (top 21), defScope (top 21), [], []⟩
def d_simplest_between : He.DefD := ⟨("simplest_between", none), "simplest_between", "simplest_between", defArgs (top 20), defBody (top 20), defScope (top 20), [], []⟩
def d_order_of : He.DefD := ⟨("order_of", none), "order_of", "order_of", defArgs (top 12), defBody (top 12), defScope (top 12), [], []⟩
def d_simplest : He.DefD := ⟨("simplest", none), "simplest", "simplest", defArgs (top 19), defBody (top 19), defScope (top 19), [], []⟩
def d_steps_for : He.DefD := ⟨("steps_for", none), "steps_for", "steps_for", defArgs (top 23), defBody (top 23), defScope (top 23), [], []⟩
def d__law_roll : He.DefD := ⟨("_law_roll", none), "_law_roll", "_law_roll", defArgs (top 26), defBody (top 26), defScope (top 26), [], []⟩
def d__law_pick : He.DefD := ⟨("_law_pick", none), "_law_pick", "_law_pick", defArgs (top 27), defBody (top 27), defScope (top 27), [], []⟩
def d__law_fr_low : He.DefD := ⟨("_law_fr_low", none), "_law_fr_low", "_law_fr_low", defArgs (top 28), defBody (top 28), defScope (top 28), [], []⟩
def d__law_fr_drawn : He.DefD := ⟨("_law_fr_drawn", none), "_law_fr_drawn", "_law_fr_drawn", defArgs (top 31), defBody (top 31), defScope (top 31), [], []⟩
def d__law_fr_plus : He.DefD := ⟨("_law_fr_plus", none), "_law_fr_plus", "_law_fr_plus", defArgs (top 29), defBody (top 29), defScope (top 29), [], []⟩
def d__law_fr_below : He.DefD := ⟨("_law_fr_below", none), "_law_fr_below", "_law_fr_below", defArgs (top 30), defBody (top 30), defScope (top 30), [], []⟩
def d__law_stretch : He.DefD := ⟨("_law_stretch", none), "_law_stretch", "_law_stretch", defArgs (top 33), defBody (top 33), defScope (top 33), [], []⟩
def d__law_has_lesser : He.DefD := ⟨("_law_has_lesser", none), "_law_has_lesser", "_law_has_lesser", defArgs (top 34), defBody (top 34), defScope (top 34), [], []⟩
def d__law_simplest : He.DefD := ⟨("_law_simplest", none), "_law_simplest", "_law_simplest", defArgs (top 32), defBody (top 32), defScope (top 32), [], []⟩
def d__law_right : He.DefD := ⟨("_law_right", none), "_law_right", "_law_right", defArgs (top 35), defBody (top 35), defScope (top 35), [], []⟩
def d_law : He.DefD := ⟨("law", none), "law", "law", defArgs (top 36), defBody (top 36), defScope (top 36), [], []⟩
def fn0 : List He.DefD := [d__law_dice, d_is_row, d_is_number, d_is_fraction, d_check_fraction, d_check_both, d_whole_of, d_turned_over, d_reduced, d_rest_of, d_simplest_above, d_simplest_between, d_order_of, d_simplest, d_steps_for, d__law_roll, d__law_pick, d__law_fr_low, d__law_fr_drawn, d__law_fr_plus]
def fn1 : List He.DefD := [d__law_fr_below, d__law_stretch, d__law_has_lesser, d__law_simplest, d__law_right, d_law]
def fn : List He.DefD := fn0 ++ fn1
def fa0 : List He.Fa := [.glo "_law_dice", .glo "is_row", .glo "is_number", .glo "is_fraction", .glo "check_fraction", .glo "check_both", .glo "whole_of", .glo "turned_over", .glo "reduced", .glo "rest_of", .glo "simplest_above", .glo "simplest_between", .glo "order_of", .glo "simplest", .glo "steps_for", .glo "_law_roll", .glo "_law_pick", .glo "_law_fr_low", .glo "_law_fr_drawn", .glo "_law_fr_plus", .glo "_law_fr_below", .glo "_law_stretch", .glo "_law_has_lesser", .glo "_law_simplest", .glo "_law_right", .glo "law", .free "abs", .free "bool", .free "int", .free "isinstance"]
def fa1 : List He.Fa := [.free "len", .free "max", .free "min", .free "range", .free "reversed", .free "tuple", .int "GREATEST" 999999999999999999999999999999999999999999999999999999999999]
def faT : List He.Fa := [.glo "ZERO"]
def fa : List He.Fa := fa0 ++ fa1 ++ faT
def ex (K : PySem.W.Frag) : Bool := (He.tupB K "ZERO" [.int 0, .int 1] && (He.eqO (PySem.W.nsIn K mainGlobals "gcd") (some (some (.builtin "math.gcd"))) && true))
abbrev R : PySem.W.OpenRow := PySem.W.OpenLaw.row PySem.Challenge.rw_anymargin_k01_whole_simplest_ones_and_st
abbrev hk : PySem.W.Hook := He.hookX 4 fa fn [] [] ex
def ob (s : PySem.W.SharedT) : He.AlX := He.obsX 4 fa fn [] [] ex (HandSHeadRun.getT s)
theorem ob_eq (s : PySem.W.SharedT) : ob s = hk.obs s.abs := He.obsX_eq (HandSHeadRun.getT_eq s)
def loose : List PySem.Str := (["gcd", "__name__", "MarginError", "InvalidFraction", "InvalidOperation", "GREATEST", "is_number", "is_row", "ZERO", "reduced", "order_of", "whole_of", "rest_of", "is_fraction", "check_fraction", "check_both", "simplest", "simplest_between", "simplest_above", "turned_over", "steps_for", "_law_dice", "_law_roll", "_law_pick", "_law_fr_low", "_law_fr_plus", "_law_fr_below", "_law_fr_drawn", "_law_simplest", "_law_stretch"] : List PySem.Str) ++ (["_law_has_lesser", "_law_right"] : List PySem.Str)
theorem run (w : World) : HandSHeadRun.RunEqI R (PySem.W.view R.prog [0, 36]) hk ob 3000 loose w := by
  unfold HandSHeadRun.RunEqI
  kernel_rfl
def spL (K : PySem.W.Frag) : Sp := spM K 1 m_law
theorem facts {P : Program} {w : World} {K : PySem.W.Frag} {h : Heap} {mg : Str → Option Value} {f : Addr} (X : K.In h) (G : h.Ns mainGlobals mg) (hfa : mg ("law" : Str) = some (.ref f)) (c : He.SaysD fa fn K) (mo : ex K = true) :
    ∃ fd : FuncData, (∀ (s : Shared) (v : Value), BindsTo s fd ⟨[v], []⟩ [("script", v)]) ∧ ∀ base : Heap, K.In base → base.Ns mainGlobals mg → FnOk P w K mg base CX0 7 f fd ["script"] (spM K 1 m_law) := by
  obtain ⟨x0, mo⟩ := He.ba (show (_ && _) = true from mo)
  obtain ⟨x1, mo⟩ := He.ba (show (_ && _) = true from mo)
  have T : Txt K mg := by
    constructor
    · exact He.free_ok X G (c.fact 26 (f := .free "abs") rfl)
    · exact He.free_ok X G (c.fact 27 (f := .free "bool") rfl)
    · exact He.free_ok X G (c.fact 28 (f := .free "int") rfl)
    · exact He.free_ok X G (c.fact 29 (f := .free "isinstance") rfl)
    · exact He.free_ok X G (c.fact 30 (f := .free "len") rfl)
    · exact He.free_ok X G (c.fact 31 (f := .free "max") rfl)
    · exact He.free_ok X G (c.fact 32 (f := .free "min") rfl)
    · exact He.free_ok X G (c.fact 33 (f := .free "range") rfl)
    · exact He.free_ok X G (c.fact 34 (f := .free "reversed") rfl)
    · exact He.free_ok X G (c.fact 35 (f := .free "tuple") rfl)
    · exact He.int_ok X G (c.fact 36 (f := .int "GREATEST" 999999999999999999999999999999999999999999999999999999999999) rfl)
    · exact ⟨He.glo_ok X G (c.fact 37 (f := .glo "ZERO") rfl), fun A H => ⟨_, _, rfl, He.tupB_ok x0 H, ⟨_, _, rfl, rfl, ⟨_, _, rfl, rfl, rfl⟩⟩⟩⟩
    · exact PySem.W.mg_of X G (He.eqO_ok x1)
  have h__law_dice := He.glo_ok X G (c.fact 0 (f := .glo "_law_dice") rfl)
  have F__law_dice : FnP K "_law_dice" 25 := c.def_ 0 (d := d__law_dice) rfl
  have h_is_row := He.glo_ok X G (c.fact 1 (f := .glo "is_row") rfl)
  have F_is_row : FnP K "is_row" 8 := c.def_ 1 (d := d_is_row) rfl
  have h_is_number := He.glo_ok X G (c.fact 2 (f := .glo "is_number") rfl)
  have F_is_number : FnP K "is_number" 7 := c.def_ 2 (d := d_is_number) rfl
  have h_is_fraction := He.glo_ok X G (c.fact 3 (f := .glo "is_fraction") rfl)
  have F_is_fraction : FnP K "is_fraction" 16 := c.def_ 3 (d := d_is_fraction) rfl
  have h_check_fraction := He.glo_ok X G (c.fact 4 (f := .glo "check_fraction") rfl)
  have F_check_fraction : FnP K "check_fraction" 17 := c.def_ 4 (d := d_check_fraction) rfl
  have h_check_both := He.glo_ok X G (c.fact 5 (f := .glo "check_both") rfl)
  have F_check_both : FnP K "check_both" 18 := c.def_ 5 (d := d_check_both) rfl
  have h_whole_of := He.glo_ok X G (c.fact 6 (f := .glo "whole_of") rfl)
  have F_whole_of : FnP K "whole_of" 13 := c.def_ 6 (d := d_whole_of) rfl
  have h_turned_over := He.glo_ok X G (c.fact 7 (f := .glo "turned_over") rfl)
  have F_turned_over : FnP K "turned_over" 22 := c.def_ 7 (d := d_turned_over) rfl
  have h_reduced := He.glo_ok X G (c.fact 8 (f := .glo "reduced") rfl)
  have F_reduced : FnP K "reduced" 11 := c.def_ 8 (d := d_reduced) rfl
  have h_rest_of := He.glo_ok X G (c.fact 9 (f := .glo "rest_of") rfl)
  have F_rest_of : FnP K "rest_of" 14 := c.def_ 9 (d := d_rest_of) rfl
  have h_simplest_above := He.glo_ok X G (c.fact 10 (f := .glo "simplest_above") rfl)
  have F_simplest_above : FnP K "simplest_above" 21 := c.def_ 10 (d := d_simplest_above) rfl
  have h_simplest_between := He.glo_ok X G (c.fact 11 (f := .glo "simplest_between") rfl)
  have F_simplest_between : FnP K "simplest_between" 20 := c.def_ 11 (d := d_simplest_between) rfl
  have h_order_of := He.glo_ok X G (c.fact 12 (f := .glo "order_of") rfl)
  have F_order_of : FnP K "order_of" 12 := c.def_ 12 (d := d_order_of) rfl
  have h_simplest := He.glo_ok X G (c.fact 13 (f := .glo "simplest") rfl)
  have F_simplest : FnP K "simplest" 19 := c.def_ 13 (d := d_simplest) rfl
  have h_steps_for := He.glo_ok X G (c.fact 14 (f := .glo "steps_for") rfl)
  have F_steps_for : FnP K "steps_for" 23 := c.def_ 14 (d := d_steps_for) rfl
  have h__law_roll := He.glo_ok X G (c.fact 15 (f := .glo "_law_roll") rfl)
  have F__law_roll : FnP K "_law_roll" 26 := c.def_ 15 (d := d__law_roll) rfl
  have h__law_pick := He.glo_ok X G (c.fact 16 (f := .glo "_law_pick") rfl)
  have F__law_pick : FnP K "_law_pick" 27 := c.def_ 16 (d := d__law_pick) rfl
  have h__law_fr_low := He.glo_ok X G (c.fact 17 (f := .glo "_law_fr_low") rfl)
  have F__law_fr_low : FnP K "_law_fr_low" 28 := c.def_ 17 (d := d__law_fr_low) rfl
  have h__law_fr_drawn := He.glo_ok X G (c.fact 18 (f := .glo "_law_fr_drawn") rfl)
  have F__law_fr_drawn : FnP K "_law_fr_drawn" 31 := c.def_ 18 (d := d__law_fr_drawn) rfl
  have h__law_fr_plus := He.glo_ok X G (c.fact 19 (f := .glo "_law_fr_plus") rfl)
  have F__law_fr_plus : FnP K "_law_fr_plus" 29 := c.def_ 19 (d := d__law_fr_plus) rfl
  have h__law_fr_below := He.glo_ok X G (c.fact 20 (f := .glo "_law_fr_below") rfl)
  have F__law_fr_below : FnP K "_law_fr_below" 30 := c.def_ 20 (d := d__law_fr_below) rfl
  have h__law_stretch := He.glo_ok X G (c.fact 21 (f := .glo "_law_stretch") rfl)
  have F__law_stretch : FnP K "_law_stretch" 33 := c.def_ 21 (d := d__law_stretch) rfl
  have h__law_has_lesser := He.glo_ok X G (c.fact 22 (f := .glo "_law_has_lesser") rfl)
  have F__law_has_lesser : FnP K "_law_has_lesser" 34 := c.def_ 22 (d := d__law_has_lesser) rfl
  have h__law_simplest := He.glo_ok X G (c.fact 23 (f := .glo "_law_simplest") rfl)
  have F__law_simplest : FnP K "_law_simplest" 32 := c.def_ 23 (d := d__law_simplest) rfl
  have h__law_right := He.glo_ok X G (c.fact 24 (f := .glo "_law_right") rfl)
  have F__law_right : FnP K "_law_right" 35 := c.def_ 24 (d := d__law_right) rfl
  have h_law := He.glo_ok X G (c.fact 25 (f := .glo "law") rfl)
  have F_law : FnP K "law" 36 := c.def_ 25 (d := d_law) rfl
  obtain ⟨fd, F⟩ := id F_law
  have e := hfa.symm.trans h_law
  cases e
  have b := FunD.bindsA (ps := ["script"]) F fun _ _ _ _ _ _ us hl => match us, hl with | [_], _ => rfl
  refine ⟨fd, fun s v => b s [v] rfl, fun base KB GB => ?_⟩
  have k__law_dice := c__law_dice (P := P) (w := w) (base := base) T h__law_dice F__law_dice 
  have k_is_row := c_is_row (P := P) (w := w) (base := base) T h_is_row F_is_row 
  have k_is_number := c_is_number (P := P) (w := w) (base := base) T h_is_number F_is_number 
  have k_is_fraction := c_is_fraction (P := P) (w := w) (base := base) T h_is_fraction F_is_fraction k_is_number k_is_row
  have k_check_fraction := c_check_fraction (P := P) (w := w) (base := base) T h_check_fraction F_check_fraction k_is_fraction
  have k_check_both := c_check_both (P := P) (w := w) (base := base) T h_check_both F_check_both k_check_fraction
  have k_whole_of := c_whole_of (P := P) (w := w) (base := base) T h_whole_of F_whole_of 
  have k_turned_over := c_turned_over (P := P) (w := w) (base := base) T h_turned_over F_turned_over 
  have k_reduced := c_reduced (P := P) (w := w) (base := base) T h_reduced F_reduced 
  have k_rest_of := c_rest_of (P := P) (w := w) (base := base) T h_rest_of F_rest_of k_reduced k_whole_of
  have k_simplest_above := c_simplest_above (P := P) (w := w) (base := base) T h_simplest_above F_simplest_above k_rest_of k_turned_over k_whole_of
  have k_simplest_between := c_simplest_between (P := P) (w := w) (base := base) T h_simplest_between F_simplest_between k_simplest_above
  have k_order_of := c_order_of (P := P) (w := w) (base := base) T h_order_of F_order_of 
  have k_simplest := c_simplest (P := P) (w := w) (base := base) T h_simplest F_simplest k_check_both k_order_of k_simplest_between
  have k_steps_for := c_steps_for (P := P) (w := w) (base := base) T h_steps_for F_steps_for k_check_both
  have k__law_roll := c__law_roll (P := P) (w := w) (base := base) T h__law_roll F__law_roll 
  have k__law_pick := c__law_pick (P := P) (w := w) (base := base) T h__law_pick F__law_pick k__law_roll
  have k__law_fr_low := c__law_fr_low (P := P) (w := w) (base := base) T h__law_fr_low F__law_fr_low 
  have k__law_fr_drawn := c__law_fr_drawn (P := P) (w := w) (base := base) T h__law_fr_drawn F__law_fr_drawn k__law_fr_low k__law_pick k__law_roll
  have k__law_fr_plus := c__law_fr_plus (P := P) (w := w) (base := base) T h__law_fr_plus F__law_fr_plus k__law_fr_low
  have k__law_fr_below := c__law_fr_below (P := P) (w := w) (base := base) T h__law_fr_below F__law_fr_below 
  have k__law_stretch := c__law_stretch (P := P) (w := w) (base := base) T h__law_stretch F__law_stretch k__law_fr_below k__law_fr_drawn k__law_fr_plus k__law_roll
  have k__law_has_lesser := c__law_has_lesser (P := P) (w := w) (base := base) T h__law_has_lesser F__law_has_lesser 
  have k__law_simplest__R0 := c__law_simplest__R0 (P := P) (w := w) (base := base) T h__law_simplest F__law_simplest 
  have k__law_simplest__R1 := c__law_simplest__R1 (P := P) (w := w) (base := base) T h__law_simplest F__law_simplest k__law_fr_low k__law_simplest__R0
  have k__law_simplest := c__law_simplest (P := P) (w := w) (base := base) T h__law_simplest F__law_simplest k__law_fr_low k__law_simplest__R1
  have k__law_right := c__law_right (P := P) (w := w) (base := base) T h__law_right F__law_right k__law_fr_below k__law_fr_drawn k__law_fr_low k__law_has_lesser k__law_roll k__law_simplest k__law_stretch k_simplest k_steps_for
  exact law_fn T F k__law_dice k__law_right k_simplest k_steps_for
end MR
open PySem PySem.W PySem.Calls PyProof.Rows
theorem PySem.Challenge.cw_anymargin_k01_whole_simplest_ones_and_st_holds : PySem.Challenge.rw_anymargin_k01_whole_simplest_ones_and_st.Holds := by
  w_on; o_law
  refine HandSHeadRun.head_imp (r := OpenLaw.row PySem.Challenge.rw_anymargin_k01_whole_simplest_ones_and_st) (q := view (OpenLaw.row PySem.Challenge.rw_anymargin_k01_whole_simplest_ones_and_st).prog [0, 36]) (H := MR.hk) (ob := MR.ob) (M := 3000) (loose := MR.loose) (d := HandSHeadRun.topDef (OpenLaw.row PySem.Challenge.rw_anymargin_k01_whole_simplest_ones_and_st).prog 36) (kwd := []) MR.ob_eq
    MR.run (by kernel_rfl) (by kernel_rfl) (by kernel_rfl) (by rfl) (by first | assumption | decide +kernel) (by decide +kernel) ⟨rfl, rfl, rfl, rfl, rfl, by decide +kernel⟩ ?hw ?hc
  case hw => w_witness2
  case hc =>
    refine L2.walk_ofE (l := PySem.Challenge.rw_anymargin_k01_whole_simplest_ones_and_st) (n := 63) (k := 7) (x := "script") (CX := L2.CX0) rfl (by decide) (by kernel_rfl) ⟨rfl, by decide, by decide⟩ ?F (fun _ _ _ _ z => z)
    intro w mg fa h Y G hmg0
    obtain ⟨K, KX, c⟩ := Y
    have hmg : mg ("law" : PySem.Str) = some (.ref fa) := by
      have e : (HandSHeadRun.topDef (OpenLaw.row PySem.Challenge.rw_anymargin_k01_whole_simplest_ones_and_st).prog 36).name = ("law" : PySem.Str) := by kernel_rfl
      rw [← e]
      exact hmg0
    obtain ⟨fd, hb, hF⟩ := MR.facts (P := (PySem.Challenge.rw_anymargin_k01_whole_simplest_ones_and_st).prog) (w := w) KX G hmg c.t.d c.more
    refine ⟨K, fd, MR.spL K, KX, hb, fun H a ns hl hO hS => ?_, hF⟩
    obtain ⟨μ', e⟩ := MR.law_true ns hl
    exact VL.law_start hO hS e
end
