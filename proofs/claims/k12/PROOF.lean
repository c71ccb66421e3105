import PyProof.Rows.All
import HandS.ForMost
import HandS.Gcd
import HandS.Wide
import HandS.WideMore
import HandS.IsInst
import HandS.Zip
import HandS.TupAny
import HandS.Deep
import HandS.Conv
import HandS.Flow
import HandS.Defaults
import HandS.Rev
import HandS.RaiseMore
import PyProof.CallFns
import KE.DataEq
import HandS.Lambda
import HandS.HeadHook1
import HandS.Style
import HandS.Sort
import HandS.TupMul
import KE.DataMinMax
import HandS.SortInts
import HandS.ExcOwn
import HandS.ExcInit
import HandS.TryMany
import HandS.CallSlots
import HandS.CallLocal
import PyProof.ExcBaseAll.IndexError
import PyProof.ExcBaseAll.ArithmeticError
import PyProof.ExcBaseAll.OverflowError
import PyProof.ExcBaseAll.LookupError
import HandS.SetFor
import HandS.Strs
import HandS.SortRule
import KE.GoesEnum
import KE.KMathG
import HandS.TupSets
import PySem.Challenge.RW_anymargin_k12_whole_corners_and_weights
import KE.KStateDown
import HandS.Head0
import HandS.Head1
import HandS.Head2
import HandS.Head3
import HandS.HeadEnd
import HandS.HeadHook2
import HandS.HeadHook3
import HandS.HeadHook4
section
set_option Elab.async false
set_option linter.all false
set_option maxRecDepth 100000
namespace VL
open PySem PySem.Spec PyProof.Rows L2
/-- the tables of code objects that the defs with lambdas have -/
class LawTabs where
  T : PySem.W.Frag → List (Addr × Str)
variable [LawTabs]

/-- a value as it is reckoned with: data; a list that is changed (its number); a list of ints from outside; a range -/
inductive Vw where
  | d (p : PyData)
  | loc (n : Nat)
  | kl (ns : List Int)
  | rg (lo hi : Int)
abbrev Rho := List (Option Vw)
abbrev Mu := List (List PyData)

mutual
def Da (K : PySem.W.Frag) (φ : List Addr) (H : Hp) : PyData → V → Prop
  | .none, v => v = .non
  | .bool b, v => v = .bl b
  | .int i, v => v = .int i
  | .str x, v => v = .str x
  | .list ds, v => ∃ a xs, v = .ref a ∧ a ∉ φ ∧ H a = some (.lst xs) ∧ DaAll K φ H ds xs
  | .tuple ds, v => ∃ a xs, v = .ref a ∧ SqT K H a xs ∧ DaAll K φ H ds xs
  | .dict kvs, v => (kvs = [] ∧ ∃ a, v = .ref a ∧ a ∉ φ ∧ H a = some (.dK [])) ∨ (∃ x, kvs = [(.str "def", .str x)] ∧ v = .ref (He.ga K x))
def DaAll (K : PySem.W.Frag) (φ : List Addr) (H : Hp) : List PyData → List V → Prop
  | [], xs => xs = []
  | d :: ds, xs => ∃ v vs, xs = v :: vs ∧ Da K φ H d v ∧ DaAll K φ H ds vs
end
def KL (K : PySem.W.Frag) (A : List Addr) (H : Hp) (a : Addr) (xs : List V) : Prop :=
  (∃ o, H a = some (.frz o (.lst xs))) ∨ (a ∉ A ∧ H a = some (.lst xs)) ∨
    ∃ (o : Obj) (its : Array Value) (n : Nat), K.lookup a = some o ∧ o.cls = .type "list" ∧ o.dict = none ∧ o.data = .seq its n ∧ its.size ≤ sizeLine ∧ Vals xs its.toList
theorem KL.sq {K : PySem.W.Frag} {A : List Addr} {H : Hp} {a : Addr} {xs : List V} (h : KL K A H a xs) : SqL K H a xs := by
  rcases h with ⟨o, h⟩ | ⟨_, h⟩ | h
  · exact .inl (.inr ⟨o, h⟩)
  · exact .inl (.inl h)
  · exact .inr h
/-- places: those to be left alone, those of the changed lists -/
abbrev Ph := List Addr × List Addr
def Ph.av (φ : Ph) : List Addr := φ.1 ++ φ.2
/-- a value as it lies -/
def RV (K : PySem.W.Frag) (φ : Ph) (H : Hp) : Vw → V → Prop
  | .d p, v => Da K φ.av H p v
  | .loc n, v => ∃ a, φ.2[n]? = some a ∧ v = .ref a
  | .kl ns, v => ∃ a, v = .ref a ∧ KL K φ.av H a (ns.map V.int)
  | .rg lo hi, v => ∃ a, v = .ref a ∧ H a = some (.rng lo hi)
def RVs (K : PySem.W.Frag) (φ : Ph) (H : Hp) : List Vw → List V → Prop
  | [], xs => xs = []
  | d :: ds, xs => ∃ v vs, xs = v :: vs ∧ RV K φ H d v ∧ RVs K φ H ds vs

/-- what comes later: more changed lists, all else as it was -/
structure Grow (φ φ' : Ph) (H H' : Hp) : Prop where
  fst : ∃ χ, φ'.1 = φ.1 ++ χ ∧ ∀ a ∈ χ, H a = none
  pre : ∃ ψ, φ'.2 = φ.2 ++ ψ ∧ ∀ a ∈ ψ, H a = none
  ext : ∀ a o, H a = some o → (a ∈ φ.2 → ∀ xs, o ≠ .lst xs) → (∀ ps, o ≠ .tbl ps) → H' a = some o
  live : ∀ a, H' a = none → H a = none
structure Cells (K : PySem.W.Frag) (φ : Ph) (H : Hp) (μ : Mu) : Prop where
  nd : φ.2.Nodup
  len : φ.2.length = μ.length
  at_ : ∀ (n : Nat) (a : Addr) (ds : List PyData), φ.2[n]? = some a → μ[n]? = some ds → ∃ xs, H a = some (.lst xs) ∧ DaAll K φ.av H ds xs
  tr : ∀ a ∈ φ.1, H a ≠ none
  tb : LamX.Tabs (LawTabs.T K) H
structure RS (K : PySem.W.Frag) (φ : Ph) (σ : L2.St) (H : Hp) (ρ : Rho) (μ : Mu) : Prop where
  c : Cells K φ H μ
  len : σ.length = ρ.length
  at_ : ∀ (i : Nat) (w : Vw), ρ[i]? = some (some w) → ∃ v, σ[i]? = some (some v) ∧ RV K φ H w v

section
variable {K : PySem.W.Frag} {φ φ' φ'' : Ph} {A A' : List Addr} {H H' H'' : Hp}
theorem Grow.refl (φ : Ph) (H : Hp) : Grow φ φ H H := ⟨⟨[], by simp, by simp⟩, ⟨[], by simp, by simp⟩, fun _ _ h _ _ => h, fun _ h => h⟩
theorem Grow.trans (g : Grow φ φ' H H') (g' : Grow φ' φ'' H' H'') : Grow φ φ'' H H'' := by
  obtain ⟨⟨ψ', q1, hψ'⟩, ⟨ψ, p1, hψ⟩, e1, l1⟩ := g
  obtain ⟨⟨χ', q2, hχ'⟩, ⟨χ, p2, hχ⟩, e2, l2⟩ := g'
  refine ⟨⟨ψ' ++ χ', by rw [q2, q1, List.append_assoc], fun a ha => (List.mem_append.mp ha).elim (hψ' a) fun z => l1 a (hχ' a z)⟩, ⟨ψ ++ χ, by rw [p2, p1, List.append_assoc], fun a ha => ?_⟩, fun a o h hn nt => ?_, fun a h => l1 a (l2 a h)⟩
  · rcases List.mem_append.mp ha with ha | ha
    · exact hψ a ha
    · exact l1 a (hχ a ha)
  · have h1 := e1 a o h hn nt
    refine e2 a o h1 (fun hm => ?_) nt
    rw [p1] at hm
    rcases List.mem_append.mp hm with hm | hm
    · exact hn hm
    · rw [hψ a hm] at h; cases h
/-- a new object is laid -/
theorem Grow.laid {p : Addr} {o : HO} (hp : H p = none) : Grow φ φ H (upd H p o) := by
  refine ⟨⟨[], by simp, by simp⟩, ⟨[], by simp, by simp⟩, fun a u h _ _ => ?_, fun a h => ?_⟩
  · rw [upd_ne (ne_of_none h hp)]; exact h
  · by_cases e : a = p
    · rw [e]; exact hp
    · rw [upd_ne e] at h; exact h
/-- .. as a changed list -/
theorem Grow.cell {p : Addr} {o : HO} (hp : H p = none) : Grow φ (φ.1, φ.2 ++ [p]) H (upd H p o) := by
  refine ⟨⟨[], by simp, by simp⟩, ⟨[p], rfl, fun a ha => ?_⟩, fun a u h _ _ => ?_, fun a h => ?_⟩
  · rw [List.mem_singleton.mp ha]; exact hp
  · rw [upd_ne (ne_of_none h hp)]; exact h
  · by_cases e : a = p
    · rw [e]; exact hp
    · rw [upd_ne e] at h; exact h
/-- .. where lists that are left alone may be written, too -/
structure GrowW (φ φ' : Ph) (H H' : Hp) : Prop where
  fst : ∃ χ, φ'.1 = φ.1 ++ χ ∧ ∀ a ∈ χ, H a = none
  pre : ∃ ψ, φ'.2 = φ.2 ++ ψ ∧ ∀ a ∈ ψ, H a = none
  ext : ∀ a o, H a = some o → (a ∈ φ.av → ∀ xs, o ≠ .lst xs) → (∀ ps, o ≠ .tbl ps) → H' a = some o
  live : ∀ a, H' a = none → H a = none
theorem Grow.w (g : Grow φ φ' H H') : GrowW φ φ' H H' := ⟨g.fst, g.pre, fun a o h hn nt => g.ext a o h (fun z => hn (List.mem_append_right _ z)) nt, g.live⟩
instance : Coe (Grow φ φ' H H') (GrowW φ φ' H H') := ⟨Grow.w⟩
theorem GrowW.trans (g : GrowW φ φ' H H') (g' : GrowW φ' φ'' H' H'') : GrowW φ φ'' H H'' := by
  obtain ⟨⟨ψ', q1, hψ'⟩, ⟨ψ, p1, hψ⟩, e1, l1⟩ := g
  obtain ⟨⟨χ', q2, hχ'⟩, ⟨χ, p2, hχ⟩, e2, l2⟩ := g'
  refine ⟨⟨ψ' ++ χ', by rw [q2, q1, List.append_assoc], fun a ha => (List.mem_append.mp ha).elim (hψ' a) fun z => l1 a (hχ' a z)⟩, ⟨ψ ++ χ, by rw [p2, p1, List.append_assoc], fun a ha => (List.mem_append.mp ha).elim (hψ a) fun z => l1 a (hχ a z)⟩, fun a o h hn nt => ?_, fun a h => l1 a (l2 a h)⟩
  refine e2 a o (e1 a o h hn nt) (fun hm => ?_) nt
  rcases List.mem_append.mp hm with hm | hm
  · rw [q1] at hm
    rcases List.mem_append.mp hm with hm | hm
    · exact hn (List.mem_append_left _ hm)
    · rw [hψ' a hm] at h; cases h
  · rw [p1] at hm
    rcases List.mem_append.mp hm with hm | hm
    · exact hn (List.mem_append_right _ hm)
    · rw [hψ a hm] at h; cases h
theorem GrowW.wr {D : Addr} {zs ys : List V} (hD : D ∈ φ.1) (hl : H D = some (.lst zs)) : GrowW φ φ H (upd H D (.lst ys)) := by
  refine ⟨⟨[], by simp, by simp⟩, ⟨[], by simp, by simp⟩, fun a o h hn nt => ?_, fun a h => ?_⟩
  · by_cases e : a = D
    · subst e; rw [hl] at h; cases h; exact absurd rfl (hn (List.mem_append_left _ hD) zs)
    · rw [upd_ne e]; exact h
  · by_cases e : a = D
    · subst e; rw [upd_same] at h; cases h
    · rw [upd_ne e] at h; exact h
theorem GrowW.rd (g : GrowW φ φ' H H') {a : Addr} {o : HO} (h : Rd H a o) (hn : a ∈ φ.av → ∀ xs, o ≠ .lst xs) (nt : ∀ ps, o ≠ .tbl ps) : Rd H' a o := by
  rcases h with h | ⟨ob, h⟩
  · exact .inl (g.ext a o h hn nt)
  · exact .inr ⟨ob, g.ext a _ h (fun _ xs z => by cases z) fun ps z => by cases z⟩
theorem GrowW.sqT (g : GrowW φ φ' H H') {a : Addr} {xs : List V} (h : SqT K H a xs) : SqT K H' a xs := by
  rcases h with h | h
  · exact .inl (g.rd h (fun _ ys z => by cases z) fun ps z => by cases z)
  · exact .inr h
theorem Grow.sqT (g : Grow φ φ' H H') {a : Addr} {xs : List V} (h : SqT K H a xs) : SqT K H' a xs := g.w.sqT h
theorem GrowW.out (g : GrowW φ φ' H H') {a : Addr} (h : H a ≠ none) (hn : a ∉ φ.av) : a ∉ φ'.av := by
  obtain ⟨⟨χ, f, hχ⟩, ⟨ψ, p, hψ⟩, _, _⟩ := g
  intro hm
  rcases List.mem_append.mp hm with hm | hm
  · rw [f] at hm
    rcases List.mem_append.mp hm with hm | hm
    · exact hn (List.mem_append_left _ hm)
    · exact h (hχ a hm)
  · rw [p] at hm
    rcases List.mem_append.mp hm with hm | hm
    · exact hn (List.mem_append_right _ hm)
    · exact h (hψ a hm)
theorem Grow.out (g : Grow φ φ' H H') {a : Addr} (h : H a ≠ none) (hn : a ∉ φ.av) : a ∉ φ'.av := g.w.out h hn
theorem Grow.out2 (g : Grow φ φ' H H') {a : Addr} (h : H a ≠ none) (hn : a ∉ φ.2) : a ∉ φ'.2 := by
  obtain ⟨f, ⟨ψ, p, hψ⟩, _, _⟩ := g
  intro hm
  rw [p] at hm
  rcases List.mem_append.mp hm with hm | hm
  · exact hn hm
  · exact h (hψ a hm)
theorem av2 {a : Addr} (hn : a ∉ φ.av) : a ∉ φ.2 := fun z => hn (List.mem_append_right _ z)
theorem GrowW.kl (g : GrowW φ φ' H H') {a : Addr} {xs : List V} (h : KL K φ.av H a xs) : KL K φ'.av H' a xs := by
  rcases h with ⟨o, h⟩ | ⟨hn, h⟩ | h
  · exact .inl ⟨o, g.ext a _ h (fun _ ys z => by cases z) fun ps z => by cases z⟩
  · exact .inr (.inl ⟨g.out (by rw [h]; simp) hn, g.ext a _ h (fun z => absurd z hn) fun ps z => by cases z⟩)
  · exact .inr (.inr h)
theorem Grow.kl (g : Grow φ φ' H H') {a : Addr} {xs : List V} (h : KL K φ.av H a xs) : KL K φ'.av H' a xs := g.w.kl h
theorem KL.weak {A A' : List Addr} {a : Addr} {xs : List V} (hs : ∀ b ∈ A, b ∈ A') (h : KL K A' H a xs) : KL K A H a xs := by
  rcases h with h | ⟨hn, h⟩ | h
  · exact .inl h
  · exact .inr (.inl ⟨fun z => hn (hs _ z), h⟩)
  · exact .inr (.inr h)
mutual
theorem Da.step (g : GrowW φ φ' H H') : ∀ (p : PyData) (v : V), Da K φ.av H p v → Da K φ'.av H' p v
  | .none, _, h => h
  | .bool _, _, h => h
  | .int _, _, h => h
  | .str _, _, h => h
  | .list ds, _, ⟨a, xs, e, hn, h, hs⟩ => ⟨a, xs, e, g.out (by rw [h]; simp) hn, g.ext a _ h (fun z => absurd z hn) (fun ps z => by cases z), DaAll.step g ds xs hs⟩
  | .tuple ds, _, ⟨a, xs, e, h, hs⟩ => ⟨a, xs, e, g.sqT h, DaAll.step g ds xs hs⟩
  | .dict kvs, _, .inl ⟨z, a, e, hn, h⟩ => .inl ⟨z, a, e, g.out (by rw [h]; simp) hn, g.ext a _ h (fun z => absurd z hn) fun ps z => by cases z⟩
  | .dict kvs, _, .inr h => .inr h
theorem DaAll.step (g : GrowW φ φ' H H') : ∀ (ds : List PyData) (xs : List V), DaAll K φ.av H ds xs → DaAll K φ'.av H' ds xs
  | [], _, h => h
  | d :: ds, _, ⟨v, vs, e, h, hs⟩ => ⟨v, vs, e, Da.step g d v h, DaAll.step g ds vs hs⟩
end
mutual
theorem Da.weak (hs : ∀ a ∈ A, a ∈ A') : ∀ (p : PyData) (v : V), Da K A' H p v → Da K A H p v
  | .none, _, h => h
  | .bool _, _, h => h
  | .int _, _, h => h
  | .str _, _, h => h
  | .list ds, _, ⟨a, xs, e, hn, h, hq⟩ => ⟨a, xs, e, fun z => hn (hs a z), h, DaAll.weak hs ds xs hq⟩
  | .tuple ds, _, ⟨a, xs, e, h, hq⟩ => ⟨a, xs, e, h, DaAll.weak hs ds xs hq⟩
  | .dict kvs, _, .inl ⟨z, a, e, hn, h⟩ => .inl ⟨z, a, e, fun z => hn (hs a z), h⟩
  | .dict kvs, _, .inr h => .inr h
theorem DaAll.weak (hs : ∀ a ∈ A, a ∈ A') : ∀ (ds : List PyData) (xs : List V), DaAll K A' H ds xs → DaAll K A H ds xs
  | [], _, h => h
  | d :: ds, _, ⟨v, vs, e, h, hq⟩ => ⟨v, vs, e, Da.weak hs d v h, DaAll.weak hs ds vs hq⟩
end
theorem RV.step (g : GrowW φ φ' H H') : ∀ (w : Vw) (v : V), RV K φ H w v → RV K φ' H' w v
  | .d p, v, h => Da.step g p v h
  | .loc n, v, ⟨a, h, e⟩ => by
    obtain ⟨_, ⟨ψ, p, _⟩, _, _⟩ := g
    exact ⟨a, by rw [p, List.getElem?_append_left (List.getElem?_eq_some_iff.mp h).1]; exact h, e⟩
  | .kl ns, v, ⟨a, e, h⟩ => ⟨a, e, g.kl h⟩
  | .rg lo hi, v, ⟨a, e, h⟩ => ⟨a, e, g.ext a _ h (fun _ ys z => by cases z) fun ps z => by cases z⟩
theorem RVs.step (g : GrowW φ φ' H H') : ∀ (ws : List Vw) (vs : List V), RVs K φ H ws vs → RVs K φ' H' ws vs
  | [], _, h => h
  | w :: ws, _, ⟨v, vs, e, h, hs⟩ => ⟨v, vs, e, RV.step g w v h, RVs.step g ws vs hs⟩
theorem DaAll.len : ∀ {ds : List PyData} {xs : List V}, DaAll K A H ds xs → ds.length = xs.length
  | [], _, h => by rw [show _ = _ from h]; rfl
  | _ :: ds, _, ⟨v, vs, e, _, hs⟩ => by rw [e, List.length_cons, List.length_cons, DaAll.len hs]
theorem DaAll.get : ∀ {ds : List PyData} {xs : List V} {i : Nat} {d : PyData}, DaAll K A H ds xs → ds[i]? = some d → ∃ v, xs[i]? = some v ∧ Da K A H d v
  | [], _, _, _, _, e => by simp at e
  | d :: ds, _, 0, _, ⟨v, vs, e, h, _⟩, q => by
    simp at q; subst q; exact ⟨v, by rw [e]; rfl, h⟩
  | d :: ds, _, i + 1, _, ⟨v, vs, e, _, hs⟩, q => by
    obtain ⟨u, h1, h2⟩ := DaAll.get (i := i) hs (by simpa using q)
    exact ⟨u, by rw [e]; simpa using h1, h2⟩
theorem DaAll.append : ∀ {ds es : List PyData} {xs ys : List V}, DaAll K A H ds xs → DaAll K A H es ys → DaAll K A H (ds ++ es) (xs ++ ys)
  | [], _, _, _, h, h' => by rw [show _ = _ from h]; exact h'
  | _ :: ds, _, _, _, ⟨v, vs, e, h, hs⟩, h' => ⟨v, vs ++ _, by rw [e]; rfl, h, DaAll.append hs h'⟩
theorem DaAll.take : ∀ {ds : List PyData} {xs : List V} (n : Nat), DaAll K A H ds xs → DaAll K A H (ds.take n) (xs.take n)
  | [], _, n, h => by rw [show _ = _ from h]; simp [DaAll]
  | _ :: _, _, 0, ⟨v, vs, e, _, _⟩ => by simp [DaAll]
  | _ :: ds, _, n + 1, ⟨v, vs, e, h, hs⟩ => ⟨v, vs.take n, by rw [e]; rfl, h, DaAll.take n hs⟩
theorem DaAll.drop : ∀ {ds : List PyData} {xs : List V} (n : Nat), DaAll K A H ds xs → DaAll K A H (ds.drop n) (xs.drop n)
  | [], _, n, h => by rw [show _ = _ from h]; simp [DaAll]
  | d :: ds, _, 0, h => h
  | _ :: ds, _, n + 1, ⟨v, vs, e, h, hs⟩ => by rw [e]; exact DaAll.drop n hs
theorem DaAll.set {d : PyData} {v : V} (h : Da K A H d v) : ∀ {ds : List PyData} {xs : List V} (n : Nat), DaAll K A H ds xs → DaAll K A H (ds.set n d) (xs.set n v)
  | [], _, n, hs => by rw [show _ = _ from hs]; simp [DaAll]
  | _ :: _, _, 0, ⟨u, us, e, _, hs⟩ => by rw [e]; exact ⟨v, us, rfl, h, hs⟩
  | _ :: ds, _, n + 1, ⟨u, us, e, hu, hs⟩ => by rw [e]; exact ⟨u, us.set n v, rfl, hu, DaAll.set h n hs⟩
theorem DaAll.ints : ∀ (ns : List Int), DaAll K A H (ns.map PyData.int) (ns.map V.int)
  | [] => rfl
  | n :: ns => ⟨_, _, rfl, rfl, DaAll.ints ns⟩
theorem RVs.len : ∀ {ds : List Vw} {xs : List V}, RVs K φ H ds xs → ds.length = xs.length
  | [], _, h => by rw [show _ = _ from h]; rfl
  | _ :: ds, _, ⟨v, vs, e, _, hs⟩ => by rw [e, List.length_cons, List.length_cons, RVs.len hs]
theorem RVs.get : ∀ {ds : List Vw} {xs : List V} {i : Nat} {d : Vw}, RVs K φ H ds xs → ds[i]? = some d → ∃ v, xs[i]? = some v ∧ RV K φ H d v
  | [], _, _, _, _, e => by simp at e
  | d :: ds, _, 0, _, ⟨v, vs, e, h, _⟩, q => by
    simp at q; subst q; exact ⟨v, by rw [e]; rfl, h⟩
  | d :: ds, _, i + 1, _, ⟨v, vs, e, _, hs⟩, q => by
    obtain ⟨u, h1, h2⟩ := RVs.get (i := i) hs (by simpa using q)
    exact ⟨u, by rw [e]; simpa using h1, h2⟩
/-! a list that is left alone is written -/
mutual
theorem Da.wr {D : Addr} {zs ys : List V} (hD : D ∈ A) (hl : H D = some (.lst zs)) : ∀ (p : PyData) (v : V), Da K A H p v → Da K A (L2.upd H D (.lst ys)) p v
  | .none, _, h => h
  | .bool _, _, h => h
  | .int _, _, h => h
  | .str _, _, h => h
  | .list ds, _, ⟨a, xs, e, hn, h, hs⟩ => ⟨a, xs, e, hn, by rw [L2.upd_ne (show a ≠ D from fun z => hn (by rw [z]; exact hD))]; exact h, DaAll.wr hD hl ds xs hs⟩
  | .tuple ds, _, ⟨a, xs, e, h, hs⟩ => ⟨a, xs, e, by
      rcases h with (h | ⟨o, h⟩) | h
      · exact .inl (.inl (by rw [upd_ne (fun z => by subst z; rw [hl] at h; cases h)]; exact h))
      · exact .inl (.inr ⟨o, by rw [upd_ne (fun z => by subst z; rw [hl] at h; cases h)]; exact h⟩)
      · exact .inr h, DaAll.wr hD hl ds xs hs⟩
  | .dict kvs, _, .inr h => .inr h
  | .dict kvs, _, .inl ⟨z, a, e, hn, h⟩ => .inl ⟨z, a, e, hn, by rw [L2.upd_ne (show a ≠ D from fun z => hn (by rw [z]; exact hD))]; exact h⟩
theorem DaAll.wr {D : Addr} {zs ys : List V} (hD : D ∈ A) (hl : H D = some (.lst zs)) : ∀ (ds : List PyData) (xs : List V), DaAll K A H ds xs → DaAll K A (L2.upd H D (.lst ys)) ds xs
  | [], _, h => h
  | d :: ds, _, ⟨v, vs, e, h, hq⟩ => ⟨v, vs, e, Da.wr hD hl d v h, DaAll.wr hD hl ds vs hq⟩
end
theorem tabs_wr {T : List (Addr × Str)} {D : Addr} {zs ys : List V} (t : LamX.Tabs T H) (hl : H D = some (.lst zs)) : LamX.Tabs T (L2.upd H D (.lst ys)) := fun p hp => by
  obtain ⟨ps, h1, h2, h3⟩ := t p hp
  refine ⟨ps, by rw [upd_ne (fun z => by rw [z, hl] at h1; cases h1)]; exact h1, h2, fun pos cv hc => ?_⟩
  obtain ⟨c, e1, e2⟩ := h3 pos cv hc
  exact ⟨c, e1, by rw [upd_ne (fun z => by rw [z, hl] at e2; unfold LamX.CodeO at e2; cases e2)]; exact e2⟩
theorem tabs_laid {T : List (Addr × Str)} {p : Addr} {o : HO} (t : LamX.Tabs T H) (hp : H p = none) : LamX.Tabs T (L2.upd H p o) := t.ext fun b u e => by rw [upd_ne (ne_of_none e hp)]; exact e
theorem Cells.wr {μ : Mu} (c : Cells K φ H μ) {D : Addr} {zs ys : List V} (hD : D ∈ φ.1) (hD2 : D ∉ φ.2) (hl : H D = some (.lst zs)) : Cells K φ (L2.upd H D (.lst ys)) μ := by
  refine ⟨c.nd, c.len, fun n a ds h1 h2 => ?_, fun a ha z => ?_, tabs_wr c.tb hl⟩
  · obtain ⟨xs, h, hs⟩ := c.at_ n a ds h1 h2
    exact ⟨xs, by rw [L2.upd_ne (show a ≠ D from fun z => hD2 (by rw [← z]; exact List.mem_of_getElem? h1))]; exact h, DaAll.wr (List.mem_append_left _ hD) hl ds xs hs⟩
  · by_cases e : a = D
    · subst e; rw [upd_same] at z; cases z
    · rw [upd_ne e] at z; exact c.tr a ha z
/-! the store stays where nothing but new objects came -/
theorem Cells.laid {μ : Mu} (c : Cells K φ H μ) {p : Addr} {o : HO} (hp : H p = none) : Cells K φ (upd H p o) μ := by
  refine ⟨c.nd, c.len, fun n a ds h1 h2 => ?_, fun a ha z => c.tr a ha ((Grow.laid (φ := φ) (o := o) hp).live a z), tabs_laid c.tb hp⟩
  obtain ⟨xs, h, hs⟩ := c.at_ n a ds h1 h2
  exact ⟨xs, by rw [upd_ne (ne_of_none h hp)]; exact h, DaAll.step (Grow.laid hp).w ds xs hs⟩
theorem Cells.mem {μ : Mu} (c : Cells K φ H μ) {a : Addr} (h : a ∈ φ.2) : ∃ xs, H a = some (.lst xs) := by
  obtain ⟨n, hn⟩ := List.getElem?_of_mem h
  have : n < μ.length := by rw [← c.len]; exact (List.getElem?_eq_some_iff.mp hn).1
  obtain ⟨xs, h, _⟩ := c.at_ n a μ[n] hn (by simp [this])
  exact ⟨xs, h⟩
theorem Cells.notin {μ : Mu} (c : Cells K φ H μ) {p : Addr} (hp : H p = none) : p ∉ φ.av := fun hm => by
  rcases List.mem_append.mp hm with hm | hm
  · exact c.tr p hm hp
  · obtain ⟨xs, h⟩ := c.mem hm
    rw [hp] at h; cases h
/-- a new changed list -/
theorem Cells.cell {μ : Mu} (c : Cells K φ H μ) {p : Addr} {ds : List PyData} {xs : List V} (hp : H p = none) (hs : DaAll K φ.av H ds xs) : Cells K (φ.1, φ.2 ++ [p]) (upd H p (.lst xs)) (μ ++ [ds]) := by
  have g : Grow φ (φ.1, φ.2 ++ [p]) H (upd H p (.lst xs)) := Grow.cell hp
  refine ⟨?_, by simp [c.len], fun n a es h1 h2 => ?_, fun a ha z => c.tr a ha (g.live a z), tabs_laid c.tb hp⟩
  · rw [List.nodup_append]
    refine ⟨c.nd, by simp, fun a ha b hb => ?_⟩
    rw [List.mem_singleton.mp hb]
    intro z; subst z
    exact c.notin hp (List.mem_append_right _ ha)
  · by_cases hn : n < φ.2.length
    · have h1' : φ.2[n]? = some a := by
        have : (φ.2 ++ [p])[n]? = some a := h1
        rwa [List.getElem?_append_left hn] at this
      rw [List.getElem?_append_left (by rw [← c.len]; exact hn)] at h2
      obtain ⟨ys, h3, h4⟩ := c.at_ n a es h1' h2
      exact ⟨ys, by rw [upd_ne (ne_of_none h3 hp)]; exact h3, DaAll.step g es ys h4⟩
    · have hl : n < (φ.2 ++ [p]).length := (List.getElem?_eq_some_iff.mp h1).1
      have e : n = φ.2.length := by
        rw [List.length_append, List.length_singleton] at hl; omega
      subst e
      have h1' : (φ.2 ++ [p])[φ.2.length]? = some a := h1
      rw [List.getElem?_append_right (Nat.le_refl _), Nat.sub_self] at h1'
      rw [List.getElem?_append_right (by rw [c.len]; exact Nat.le_refl _), c.len, Nat.sub_self] at h2
      cases h1'
      cases h2
      exact ⟨xs, upd_same, DaAll.step g ds xs hs⟩
theorem RS.step {σ : L2.St} {ρ : Rho} {μ μ' : Mu} (r : RS K φ σ H ρ μ) (g : GrowW φ φ' H H') (c : Cells K φ' H' μ') : RS K φ' σ H' ρ μ' :=
  ⟨c, r.len, fun i w h => let ⟨v, h1, h2⟩ := r.at_ i w h; ⟨v, h1, RV.step g w v h2⟩⟩
theorem RS.put {σ : L2.St} {ρ : Rho} {μ : Mu} (r : RS K φ σ H ρ μ) {i : Nat} {w : Vw} {v : V} (h : RV K φ H w v) : RS K φ (σ.set i (some v)) H (ρ.set i (some w)) μ := by
  refine ⟨r.c, by simp [r.len], fun j u hj => ?_⟩
  by_cases e : j = i
  · subst e
    have hlt : j < ρ.length := by
      have := (List.getElem?_eq_some_iff.mp hj).1
      simpa using this
    rw [List.getElem?_set_self hlt] at hj
    cases hj
    exact ⟨v, by rw [List.getElem?_set_self (by rw [r.len]; exact hlt)], h⟩
  · rw [List.getElem?_set_ne (Ne.symm e)] at hj
    obtain ⟨x, h1, h2⟩ := r.at_ j u hj
    exact ⟨x, by rw [List.getElem?_set_ne (Ne.symm e)]; exact h1, h2⟩
end

/-! ### judgements -/
abbrev Post (K : PySem.W.Frag) (φ : Ph) (H : Hp) (μ' : Mu) (w : Vw) (Q : VK) : Prop := ∀ φ' v H', Grow φ φ' H H' → Cells K φ' H' μ' → RV K φ' H' w v → Q v H'
def tE (K : PySem.W.Frag) (f : Rho → Mu → Option (Vw × Mu)) : TE := fun σ H Q => ∃ φ ρ μ w μ', RS K φ σ H ρ μ ∧ f ρ μ = some (w, μ') ∧ Post K φ H μ' w Q
def tT (K : PySem.W.Frag) (f : Rho → Mu → Option (Bool × Mu)) : TT := fun σ H Q => ∃ φ ρ μ b μ', RS K φ σ H ρ μ ∧ f ρ μ = some (b, μ') ∧ ∀ φ' H', Grow φ φ' H H' → Cells K φ' H' μ' → Q b H'
def tA (K : PySem.W.Frag) (f : Rho → Mu → Option (List Vw × Mu)) : TA := fun σ H Q => ∃ φ ρ μ ws μ', RS K φ σ H ρ μ ∧ f ρ μ = some (ws, μ') ∧ ∀ φ' vs H', Grow φ φ' H H' → Cells K φ' H' μ' → RVs K φ' H' ws vs → Q vs H'
inductive SR where
  | nx (ρ : Rho) (μ : Mu) | rt (w : Vw) (μ : Mu) | bk (ρ : Rho) (μ : Mu) | ct (ρ : Rho) (μ : Mu)
def SPost (K : PySem.W.Frag) (φ : Ph) (H : Hp) (D : Ends) : Option SR → Prop
  | some (.nx ρ μ) => ∀ φ' σ' H', Grow φ φ' H H' → RS K φ' σ' H' ρ μ → D.nx σ' H'
  | some (.rt w μ) => Post K φ H μ w D.rt
  | some (.bk ρ μ) => ∀ φ' σ' H', Grow φ φ' H H' → RS K φ' σ' H' ρ μ → D.bk σ' H'
  | some (.ct ρ μ) => ∀ φ' σ' H', Grow φ φ' H H' → RS K φ' σ' H' ρ μ → D.ct σ' H'
  | none => False
def tS (K : PySem.W.Frag) (g : Rho → Mu → Option SR) : TS := fun D σ H => ∃ φ ρ μ, RS K φ σ H ρ μ ∧ SPost K φ H D (g ρ μ)
theorem SPost.grow {K : PySem.W.Frag} {φ φ' : Ph} {H H' : Hp} {D : Ends} {r : Option SR} (g : Grow φ φ' H H') (h : SPost K φ H D r) : SPost K φ' H' D r := by
  cases r with
  | none => exact h
  | some r =>
    cases r with
    | nx ρ μ => exact fun φ2 σ2 H2 g2 r2 => h φ2 σ2 H2 (g.trans g2) r2
    | rt w μ => exact fun φ2 v2 H2 g2 c2 r2 => h φ2 v2 H2 (g.trans g2) c2 r2
    | bk ρ μ => exact fun φ2 σ2 H2 g2 r2 => h φ2 σ2 H2 (g.trans g2) r2
    | ct ρ μ => exact fun φ2 σ2 H2 g2 r2 => h φ2 σ2 H2 (g.trans g2) r2
theorem PE.to {X : Cx} {e : Expr} {t u : TE} (h : PE X e t) (k : ∀ σ H Q, u σ H Q → t σ H Q) : PE X e u := ⟨fun pins s σ H Q I q => h.run pins s σ H Q I (k σ H Q q)⟩
theorem PT.to {X : Cx} {e : Expr} {t u : TT} (h : PT X e t) (k : ∀ σ H Q, u σ H Q → t σ H Q) : PT X e u := ⟨fun pins s σ H Q I q => h.run pins s σ H Q I (k σ H Q q)⟩
theorem PW.to {X : Cx} {e : Expr} {t u : TT} (h : PW X e t) (k : ∀ σ H Q, u σ H Q → t σ H Q) : PW X e u := ⟨fun wh pins s σ H Q I q => h.run wh pins s σ H Q I (k σ H Q q)⟩
theorem PA.to {X : Cx} {e : List Expr} {t u : TA} (h : PA X e t) (k : ∀ σ H Q, u σ H Q → t σ H Q) : PA X e u := ⟨fun pos pins s σ H Q I q => h.run pos pins s σ H Q I (k σ H Q q)⟩
theorem PS.to {X : Cx} {e : Stmt} {t u : TS} (h : PS X e t) (k : ∀ D σ H, u D σ H → t D σ H) : PS X e u := ⟨fun pins s σ H D I q => h.run pins s σ H D I (k D σ H q)⟩
theorem PSs.to {X : Cx} {e : List Stmt} {t u : TS} (h : PSs X e t) (k : ∀ D σ H, u D σ H → t D σ H) : PSs X e u := ⟨fun pins s σ H D I q => h.run pins s σ H D I (k D σ H q)⟩
end VL
end
section
set_option Elab.async false
set_option linter.all false
set_option maxRecDepth 100000
namespace VL
open PySem PySem.Spec PyProof.Rows L2
variable [LawTabs]
section
variable {X : Cx} {a b c : Expr} {pos : Pos}
abbrev EF := Rho → Mu → Option (Vw × Mu)
abbrev BF := Rho → Mu → Option (Bool × Mu)
abbrev AF := Rho → Mu → Option (List Vw × Mu)
abbrev SF := Rho → Mu → Option SR
/-! ### the mirror's words -/
@[simp] def eV (i : Nat) (ρ : Rho) (μ : Mu) : Option (Vw × Mu) := match ρ[i]? with
  | some (some w) => some (w, μ)
  | _ => none
@[simp] def eC (p : PyData) (_ : Rho) (μ : Mu) : Option (Vw × Mu) := some (.d p, μ)
@[simp] def eB1 (o : Mu → Vw → Option Vw) (f : EF) (ρ : Rho) (μ : Mu) : Option (Vw × Mu) := match f ρ μ with
  | some (x, μ1) => (o μ1 x).map fun z => (z, μ1)
  | none => none
@[simp] def eB2 (o : Mu → Vw → Vw → Option Vw) (f g : EF) (ρ : Rho) (μ : Mu) : Option (Vw × Mu) := match f ρ μ with
  | some (x, μ1) => (match g ρ μ1 with
    | some (y, μ2) => (o μ2 x y).map fun z => (z, μ2)
    | none => none)
  | none => none
/-- a value's truth as a test: a bool -/
@[simp] def bE (f : EF) (ρ : Rho) (μ : Mu) : Option (Bool × Mu) := match f ρ μ with
  | some (.d (.bool b), μ1) => some (b, μ1)
  | _ => none
@[simp] def bAnd (f g : BF) (ρ : Rho) (μ : Mu) : Option (Bool × Mu) := match f ρ μ with
  | some (true, μ1) => g ρ μ1
  | r => r
@[simp] def bOr (f g : BF) (ρ : Rho) (μ : Mu) : Option (Bool × Mu) := match f ρ μ with
  | some (false, μ1) => g ρ μ1
  | r => r
@[simp] def bNot (f : BF) (ρ : Rho) (μ : Mu) : Option (Bool × Mu) := (f ρ μ).map fun r => (!r.1, r.2)
@[simp] def eT (f : BF) (ρ : Rho) (μ : Mu) : Option (Vw × Mu) := (f ρ μ).map fun r => (.d (.bool r.1), r.2)
@[simp] def eIf (t : BF) (f g : EF) (ρ : Rho) (μ : Mu) : Option (Vw × Mu) := match t ρ μ with
  | some (true, μ1) => f ρ μ1
  | some (false, μ1) => g ρ μ1
  | none => none
@[simp] def aNil (_ : Rho) (μ : Mu) : Option (List Vw × Mu) := some ([], μ)
@[simp] def aCons (f : EF) (g : AF) (ρ : Rho) (μ : Mu) : Option (List Vw × Mu) := match f ρ μ with
  | some (x, μ1) => (g ρ μ1).map fun r => (x :: r.1, r.2)
  | none => none
/-! ### a value operation and its rule -/
/-- what is asked of a two-place rule r for the mirror's operation o -/
def O2 (K : PySem.W.Frag) (r : R2) (o : Mu → Vw → Vw → Option Vw) : Prop := ∀ (φ : Ph) (H : Hp) (μ : Mu) (x y w : Vw) (u v : V) (Q : VK), Cells K φ H μ → RV K φ H x u → RV K φ H y v → o μ x y = some w → Post K φ H μ w Q → r u v H Q
def O1 (K : PySem.W.Frag) (r : V → Hp → VK → Prop) (o : Mu → Vw → Option Vw) : Prop := ∀ (φ : Ph) (H : Hp) (μ : Mu) (x w : Vw) (u : V) (Q : VK), Cells K φ H μ → RV K φ H x u → o μ x = some w → Post K φ H μ w Q → r u H Q

theorem ej_var (i : Nat) {x : Str} (hN : X.N[i]? = some x := by rfl) (hv : Vis X.env.scope x := by first | exact Or.inl rfl | exact Or.inr (Or.inl rfl) | exact Or.inr (Or.inr rfl)) (hd : (x == ("__debug__" : Str)) = false := by decide)
    (hcd : (x == ("__classdict__" : Str)) = false := by decide) : PE X (.Name x pos) (tE X.K (eV i)) := PE.to (pe_var hN hv hd hcd) fun σ H Q ⟨φ, ρ, μ, w, μ', r, e, k⟩ => by
  unfold eV at e
  split at e
  · rename_i u h
    cases e
    obtain ⟨v, h1, h2⟩ := r.at_ i _ h
    exact ⟨v, h1, k φ v H (.refl _ _) r.c h2⟩
  · cases e
theorem ej_c {p : PyData} {v : V} {e : Expr} (h : PE X e (tC v)) (hp : ∀ φ H, Da X.K φ H p v) : PE X e (tE X.K (eC p)) := PE.to h fun σ H Q ⟨φ, ρ, μ, w, μ', r, e, k⟩ => by
  unfold eC at e
  cases e
  exact k φ v H (.refl _ _) r.c (hp φ.av H)
theorem ej_int {i j} : PE X (.Constant (.int i) j pos) (tE X.K (eC (.int i))) := ej_c pe_int fun _ _ => rfl
theorem ej_bl {b j} : PE X (.Constant (.bool b) j pos) (tE X.K (eC (.bool b))) := ej_c pe_bl fun _ _ => rfl
theorem ej_non {j} : PE X (.Constant .none j pos) (tE X.K (eC .none)) := ej_c pe_non fun _ _ => rfl
theorem ej_str {x j} : PE X (.Constant (.str x) j pos) (tE X.K (eC (.str x))) := ej_c pe_str fun _ _ => rfl
/-- a module's constant int, text -/
theorem ej_gint {x : Str} {i : Int} (hm : ∃ t, X.mg x = some (.int i t)) (hg : Gl X x := by rfl) (hd : (x == ("__debug__" : Str)) = false := by decide) : PE X (.Name x pos) (tE X.K (eC (.int i))) := by
  obtain ⟨t, hm⟩ := hm
  exact ej_c (pe_glob (v := .int i) hg hm ⟨t, rfl⟩ hd) fun _ _ => rfl
/-- a module's tuple -/
theorem ej_gtup {x : Str} {ad : Addr} {p : PyData} (hm : X.mg x = some (.ref ad)) (hp : ∀ φ H, Da X.K φ H p (.ref ad)) (hg : Gl X x := by rfl) (hd : (x == ("__debug__" : Str)) = false := by decide) : PE X (.Name x pos) (tE X.K (eC p)) :=
  ej_c (pe_glob (v := .ref ad) hg hm rfl hd) hp
theorem tE_2 {K : PySem.W.Frag} {r : R2} {o : Mu → Vw → Vw → Option Vw} {f g : EF} (h : O2 K r o) : ∀ σ H Q, tE K (eB2 o f g) σ H Q → tOp r (tE K f) (tE K g) σ H Q := fun σ H Q ⟨φ, ρ, μ, w, μ', rs, e, k⟩ => by
  unfold eB2 at e
  split at e
  · rename_i x μ1 e1
    split at e
    · rename_i y μ2 e2
      obtain ⟨z, ez, e3⟩ := Option.map_eq_some_iff.mp e
      cases e3
      refine ⟨φ, ρ, μ, x, μ1, rs, e1, fun φ1 u H1 g1 c1 r1 => ?_⟩
      have rs1 := rs.step g1 c1
      refine ⟨φ1, ρ, μ1, y, _, rs1, e2, fun φ2 v H2 g2 c2 r2 => ?_⟩
      exact h φ2 H2 _ x y w u v Q c2 (RV.step g2 _ _ r1) r2 ez fun φ3 v3 H3 g3 c3 r3 => k φ3 v3 H3 ((g1.trans g2).trans g3) c3 r3
    · cases e
  · cases e
theorem tE_1 {K : PySem.W.Frag} {r : V → Hp → VK → Prop} {o : Mu → Vw → Option Vw} {f : EF} (h : O1 K r o) : ∀ σ H Q, tE K (eB1 o f) σ H Q → tUn r (tE K f) σ H Q := fun σ H Q ⟨φ, ρ, μ, w, μ', rs, e, k⟩ => by
  unfold eB1 at e
  split at e
  · rename_i x μ1 e1
    obtain ⟨z, ez, e3⟩ := Option.map_eq_some_iff.mp e
    cases e3
    refine ⟨φ, ρ, μ, x, _, rs, e1, fun φ1 u H1 g1 c1 r1 => ?_⟩
    exact h φ1 H1 _ x w u Q c1 r1 ez fun φ3 v3 H3 g3 c3 r3 => k φ3 v3 H3 (g1.trans g3) c3 r3
  · cases e
theorem ej_op {op : Operator} {r : R2} {o : Mu → Vw → Vw → Option Vw} {f g : EF} (ho : OpR X (binaryOp op) r) (h : O2 X.K r o) (ha : PE X a (tE X.K f)) (hb : PE X b (tE X.K g)) : PE X (.BinOp a op b pos) (tE X.K (eB2 o f g)) := PE.to (pe_op ho ha hb) (tE_2 h)
theorem ej_cmp {op : CmpOp} {r : R2} {o : Mu → Vw → Vw → Option Vw} {f g : EF} (ho : OpR X (compareOp op) r) (h : O2 X.K r o) (ha : PE X a (tE X.K f)) (hb : PE X b (tE X.K g)) (hm : behindInMarks op b = false := by first | exact nomark _ | rfl) : PE X (.Compare a [op] [b] pos) (tE X.K (eB2 o f g)) := PE.to (pe_cmpR ho ha hb hm) (tE_2 h)
theorem ej_ix {r : R2} {o : Mu → Vw → Vw → Option Vw} {f g : EF} (ho : IxR X r) (h : O2 X.K r o) (ha : PE X a (tE X.K f)) (hb : PE X b (tE X.K g)) (hs : PlainIx b := by exact fun _ _ => rfl) : PE X (.Subscript a b pos) (tE X.K (eB2 o f g)) := PE.to (pe_ix ho ha hb hs) (tE_2 h)
theorem ej_un {op : UnaryOp} {r : V → Hp → VK → Prop} {o : Mu → Vw → Option Vw} {f : EF} (ho : UnR X (unaryOp op) r) (h : O1 X.K r o) (ha : PE X a (tE X.K f)) : PE X (.UnaryOp op a pos) (tE X.K (eB1 o f)) := PE.to (pe_un ho ha) (tE_1 h)
/-! ### tests -/
theorem tT_E {K : PySem.W.Frag} {f : EF} : ∀ σ H Q, tT K (bE f) σ H Q → tB (tE K f) σ H Q := fun σ H Q ⟨φ, ρ, μ, b, μ', rs, e, k⟩ => by
  unfold bE at e
  split at e
  · rename_i c μ1 e1
    cases e
    exact ⟨φ, ρ, μ, _, _, rs, e1, fun φ1 u H1 g1 c1 r1 => ⟨_, r1, k φ1 H1 g1 c1⟩⟩
  · cases e
theorem tj_val {f : EF} (h : PE X a (tE X.K f)) (he : ∀ whole, isTrue a X.env whole = (do let v ← whole; standAt a.pos; holding [v] (truthy v)) := by intro _; rfl) : PT X a (tT X.K (bE f)) := PT.to (pt_val h he) tT_E
theorem tj_cmp {op : CmpOp} {r : R2} {o : Mu → Vw → Vw → Option Vw} {f g : EF} (ho : OpR X (compareOp op) r) (h : O2 X.K r o) (ha : PE X a (tE X.K f)) (hb : PE X b (tE X.K g)) (hm : behindInMarks op b = false := by first | exact nomark _ | rfl) : PT X (.Compare a [op] [b] pos) (tT X.K (bE (eB2 o f g))) :=
  PT.to (pt_cmpR ho ha hb hm) fun σ H Q q => by
    have q1 := tT_E σ H Q q
    exact tE_2 h σ H _ q1
theorem tj_not {f : BF} (h : PT X a (tT X.K f)) : PT X (.UnaryOp .Not a pos) (tT X.K (bNot f)) := PT.to (pt_not h) fun σ H Q ⟨φ, ρ, μ, b, μ', rs, e, k⟩ => by
  obtain ⟨⟨c, μ1⟩, e1, e2⟩ := Option.map_eq_some_iff.mp e
  cases e2
  exact ⟨φ, ρ, μ, c, _, rs, e1, fun φ1 H1 g1 c1 => k φ1 H1 g1 c1⟩
theorem tT_and {K : PySem.W.Frag} {f g : BF} : ∀ σ H Q, tT K (bAnd f g) σ H Q → tAnd (tT K f) (tT K g) σ H Q := fun σ H Q ⟨φ, ρ, μ, b, μ', rs, e, k⟩ => by
  unfold bAnd at e
  split at e
  · rename_i μ1 e1
    refine ⟨φ, ρ, μ, true, μ1, rs, e1, fun φ1 H1 g1 c1 => ?_⟩
    refine L2.iteT ?_
    exact ⟨φ1, ρ, μ1, b, μ', rs.step g1 c1, e, fun φ2 H2 g2 c2 => k φ2 H2 (g1.trans g2) c2⟩
  · rename_i hne
    refine ⟨φ, ρ, μ, b, μ', rs, e, fun φ1 H1 g1 c1 => ?_⟩
    cases b with
    | true => exact absurd e (hne _)
    | false =>
      refine L2.iteF ?_
      exact k φ1 H1 g1 c1
theorem tT_or {K : PySem.W.Frag} {f g : BF} : ∀ σ H Q, tT K (bOr f g) σ H Q → tOr (tT K f) (tT K g) σ H Q := fun σ H Q ⟨φ, ρ, μ, b, μ', rs, e, k⟩ => by
  unfold bOr at e
  split at e
  · rename_i μ1 e1
    refine ⟨φ, ρ, μ, false, μ1, rs, e1, fun φ1 H1 g1 c1 => ?_⟩
    refine L2.iteF ?_
    exact ⟨φ1, ρ, μ1, b, μ', rs.step g1 c1, e, fun φ2 H2 g2 c2 => k φ2 H2 (g1.trans g2) c2⟩
  · rename_i hne
    refine ⟨φ, ρ, μ, b, μ', rs, e, fun φ1 H1 g1 c1 => ?_⟩
    cases b with
    | false => exact absurd e (hne _)
    | true =>
      refine L2.iteT ?_
      exact k φ1 H1 g1 c1
theorem wj_and1 {f : BF} (h : PT X a (tT X.K f)) : PW X (.BoolOp .And [a] pos) (tT X.K f) := pw_and1 h
theorem wj_or1 {f : BF} (h : PT X a (tT X.K f)) : PW X (.BoolOp .Or [a] pos) (tT X.K f) := pw_or1 h
theorem wj_and {rest : List Expr} {f g : BF} (ha : PT X a (tT X.K f)) (hb : PW X (.BoolOp .And (b :: rest) pos) (tT X.K g)) : PW X (.BoolOp .And (a :: b :: rest) pos) (tT X.K (bAnd f g)) := PW.to (pw_and ha hb) tT_and
theorem wj_or {rest : List Expr} {f g : BF} (ha : PT X a (tT X.K f)) (hb : PW X (.BoolOp .Or (b :: rest) pos) (tT X.K g)) : PW X (.BoolOp .Or (a :: b :: rest) pos) (tT X.K (bOr f g)) := PW.to (pw_or ha hb) tT_or
theorem tj_w {f : BF} (h : PW X a (tT X.K f)) : PT X a (tT X.K f) := h.pt
/-- and, or, not as values of bools -/
@[simp] def eAnd (f g : EF) (ρ : Rho) (μ : Mu) : Option (Vw × Mu) := match f ρ μ with
  | some (.d (.bool true), μ1) => g ρ μ1
  | some (.d (.bool false), μ1) => some (.d (.bool false), μ1)
  | _ => none
@[simp] def eOr (f g : EF) (ρ : Rho) (μ : Mu) : Option (Vw × Mu) := match f ρ μ with
  | some (.d (.bool false), μ1) => g ρ μ1
  | some (.d (.bool true), μ1) => some (.d (.bool true), μ1)
  | _ => none
@[simp] def eNot (f : EF) (ρ : Rho) (μ : Mu) : Option (Vw × Mu) := match f ρ μ with
  | some (.d (.bool b), μ1) => some (.d (.bool (!b)), μ1)
  | _ => none
theorem ej_one {op} {f : EF} (h : PE X a (tE X.K f)) : PE X (.BoolOp op [a] pos) (tE X.K f) := pe_one h
theorem ej_and {rest : List Expr} {f g : EF} (ha : PE X a (tE X.K f)) (hb : PE X (.BoolOp .And (b :: rest) pos) (tE X.K g)) : PE X (.BoolOp .And (a :: b :: rest) pos) (tE X.K (eAnd f g)) := PE.to (pe_and ha hb) fun σ H Q ⟨φ, ρ, μ, w, μ', rs, e, k⟩ => by
  unfold eAnd at e
  split at e
  · rename_i μ1 e1
    refine ⟨φ, ρ, μ, _, μ1, rs, e1, fun φ1 v H1 g1 c1 r1 => ⟨true, r1, ?_⟩⟩
    refine L2.iteT ?_
    exact ⟨φ1, ρ, μ1, w, μ', rs.step g1 c1, e, fun φ2 v2 H2 g2 c2 r2 => k φ2 v2 H2 (g1.trans g2) c2 r2⟩
  · rename_i μ1 e1
    cases e
    refine ⟨φ, ρ, μ, _, _, rs, e1, fun φ1 v H1 g1 c1 r1 => ⟨false, r1, ?_⟩⟩
    refine L2.iteF ?_
    exact k φ1 _ H1 g1 c1 rfl
  · cases e
theorem ej_or {rest : List Expr} {f g : EF} (ha : PE X a (tE X.K f)) (hb : PE X (.BoolOp .Or (b :: rest) pos) (tE X.K g)) : PE X (.BoolOp .Or (a :: b :: rest) pos) (tE X.K (eOr f g)) := PE.to (pe_or ha hb) fun σ H Q ⟨φ, ρ, μ, w, μ', rs, e, k⟩ => by
  unfold eOr at e
  split at e
  · rename_i μ1 e1
    refine ⟨φ, ρ, μ, _, μ1, rs, e1, fun φ1 v H1 g1 c1 r1 => ⟨false, r1, ?_⟩⟩
    refine L2.iteF ?_
    exact ⟨φ1, ρ, μ1, w, μ', rs.step g1 c1, e, fun φ2 v2 H2 g2 c2 r2 => k φ2 v2 H2 (g1.trans g2) c2 r2⟩
  · rename_i μ1 e1
    cases e
    refine ⟨φ, ρ, μ, _, _, rs, e1, fun φ1 v H1 g1 c1 r1 => ⟨true, r1, ?_⟩⟩
    refine L2.iteT ?_
    exact k φ1 _ H1 g1 c1 rfl
  · cases e
theorem ej_not {f : EF} (ha : PE X a (tE X.K f)) : PE X (.UnaryOp .Not a pos) (tE X.K (eNot f)) := PE.to (pe_not ha) fun σ H Q ⟨φ, ρ, μ, w, μ', rs, e, k⟩ => by
  unfold eNot at e
  split at e
  · rename_i b μ1 e1
    cases e
    exact ⟨φ, ρ, μ, _, _, rs, e1, fun φ1 v H1 g1 c1 r1 => ⟨b, r1, k φ1 _ H1 g1 c1 rfl⟩⟩
  · cases e
theorem ej_if {t : BF} {f g : EF} (hc : PT X c (tT X.K t)) (ha : PE X a (tE X.K f)) (hb : PE X b (tE X.K g)) : PE X (.IfExp c a b pos) (tE X.K (eIf t f g)) := PE.to (pe_ifExp hc ha hb) fun σ H Q ⟨φ, ρ, μ, w, μ', rs, e, k⟩ => by
  unfold eIf at e
  split at e
  · rename_i μ1 e1
    refine ⟨φ, ρ, μ, true, μ1, rs, e1, fun φ1 H1 g1 c1 => ?_⟩
    refine L2.iteT ?_
    exact ⟨φ1, ρ, μ1, w, μ', rs.step g1 c1, e, fun φ2 v2 H2 g2 c2 r2 => k φ2 v2 H2 (g1.trans g2) c2 r2⟩
  · rename_i μ1 e1
    refine ⟨φ, ρ, μ, false, μ1, rs, e1, fun φ1 H1 g1 c1 => ?_⟩
    refine L2.iteF ?_
    exact ⟨φ1, ρ, μ1, w, μ', rs.step g1 c1, e, fun φ2 v2 H2 g2 c2 r2 => k φ2 v2 H2 (g1.trans g2) c2 r2⟩
  · cases e
/-! ### chains a op b op' c -/
@[simp] def eChain (o o' : Mu → Vw → Vw → Option Vw) (f g h : EF) (ρ : Rho) (μ : Mu) : Option (Vw × Mu) := match f ρ μ with
  | some (x, μ1) => (match g ρ μ1 with
    | some (y, μ2) => (match o μ2 x y with
      | some (.d (.bool true)) => (match h ρ μ2 with
        | some (z, μ3) => (o' μ3 y z).map fun u => (u, μ3)
        | none => none)
      | some (.d (.bool false)) => some (.d (.bool false), μ2)
      | _ => none)
    | none => none)
  | none => none
theorem tE_chain {K : PySem.W.Frag} {r r' : R2} {o o' : Mu → Vw → Vw → Option Vw} {f g h : EF} (ho : O2 K r o) (ho' : O2 K r' o') : ∀ σ H Q, tE K (eChain o o' f g h) σ H Q → tChain r r' (tE K f) (tE K g) (tE K h) σ H Q := fun σ H Q ⟨φ, ρ, μ, w, μ', rs, e, k⟩ => by
  unfold eChain at e
  split at e
  · rename_i x μ1 e1
    split at e
    · rename_i y μ2 e2
      refine ⟨φ, ρ, μ, x, μ1, rs, e1, fun φ1 u H1 g1 c1 r1 => ?_⟩
      have rs1 := rs.step g1 c1
      refine ⟨φ1, ρ, μ1, y, μ2, rs1, e2, fun φ2 v H2 g2 c2 r2 => ?_⟩
      split at e
      · rename_i e3
        refine ho φ2 H2 μ2 x y _ u v _ c2 (RV.step g2 _ _ r1) r2 e3 fun φ3 v3 H3 g3 c3 r3 => ⟨true, r3, ?_⟩
        refine L2.iteT ?_
        split at e
        · rename_i z μ3 e4
          obtain ⟨q, eq, e5⟩ := Option.map_eq_some_iff.mp e
          cases e5
          have rs3 := (rs1.step g2 c2).step g3 c3
          refine ⟨φ3, ρ, μ2, z, _, rs3, e4, fun φ4 v4 H4 g4 c4 r4 => ?_⟩
          exact ho' φ4 H4 _ y z w v v4 Q c4 (RV.step (g3.trans g4) _ _ r2) r4 eq fun φ5 v5 H5 g5 c5 r5 => k φ5 v5 H5 ((((g1.trans g2).trans g3).trans g4).trans g5) c5 r5
        · cases e
      · rename_i e3
        cases e
        refine ho φ2 H2 _ x y (.d (.bool false)) u v _ c2 (RV.step g2 _ _ r1) r2 e3 fun φ3 v3 H3 g3 c3 r3 => ⟨false, r3, ?_⟩
        refine L2.iteF ?_
        exact k φ3 _ H3 ((g1.trans g2).trans g3) c3 rfl
      · cases e
    · cases e
  · cases e
theorem ej_chain {op op' : CmpOp} {r r' : R2} {o o' : Mu → Vw → Vw → Option Vw} {f g h : EF} (ho : OpR X (compareOp op) r) (h1 : O2 X.K r o) (ho' : OpR X (compareOp op') r') (h1' : O2 X.K r' o') (ha : PE X a (tE X.K f)) (hb : PE X b (tE X.K g)) (hc : PE X c (tE X.K h))
    (hm : lastMarks [op, op'] [b, c] = false := by with_unfolding_all rfl) : PE X (.Compare a [op, op'] [b, c] pos) (tE X.K (eChain o o' f g h)) := PE.to (pe_chain ho ho' ha hb hc hm) (tE_chain h1 h1')
theorem tj_chain {op op' : CmpOp} {r r' : R2} {o o' : Mu → Vw → Vw → Option Vw} {f g h : EF} (ho : OpR X (compareOp op) r) (h1 : O2 X.K r o) (ho' : OpR X (compareOp op') r') (h1' : O2 X.K r' o') (ha : PE X a (tE X.K f)) (hb : PE X b (tE X.K g)) (hc : PE X c (tE X.K h))
    (hm : lastMarks [op, op'] [b, c] = false := by with_unfolding_all rfl) : PT X (.Compare a [op, op'] [b, c] pos) (tT X.K (bE (eChain o o' f g h))) := PT.to (pt_chain ho ho' ha hb hc hm) fun σ H Q q => tE_chain h1 h1' σ H _ (tT_E σ H Q q)
/-! ### arguments, tuples, lists -/
theorem aj_nil : PA X [] (tA X.K aNil) := PA.to pa_nil fun σ H Q ⟨φ, ρ, μ, ws, μ', rs, e, k⟩ => by
  unfold aNil at e; cases e
  exact k φ [] H (.refl _ _) rs.c rfl
theorem aj_cons {es : List Expr} {f : EF} {g : AF} (ha : PE X a (tE X.K f)) (hr : PA X es (tA X.K g)) (hs : starEach (a :: es) X.env = (false, eval a X.env) :: starEach es X.env := by rfl) : PA X (a :: es) (tA X.K (aCons f g)) := PA.to (pa_cons ha hr hs) fun σ H Q ⟨φ, ρ, μ, ws, μ', rs, e, k⟩ => by
  unfold aCons at e
  split at e
  · rename_i x μ1 e1
    obtain ⟨⟨ys, μ2⟩, e2, e3⟩ := Option.map_eq_some_iff.mp e
    cases e3
    refine ⟨φ, ρ, μ, x, μ1, rs, e1, fun φ1 u H1 g1 c1 r1 => ?_⟩
    refine ⟨φ1, ρ, μ1, ys, _, rs.step g1 c1, e2, fun φ2 vs H2 g2 c2 r2 => ?_⟩
    exact k φ2 _ H2 (g1.trans g2) c2 ⟨u, vs, rfl, RV.step g2 _ _ r1, r2⟩
  · cases e
/-- all are data -/
@[simp] def allD : List Vw → Option (List PyData)
  | [] => some []
  | .d p :: r => (allD r).map fun q => p :: q
  | _ :: _ => none
theorem allD_da {K : PySem.W.Frag} {φ : Ph} {H : Hp} : ∀ {ws : List Vw} {ps : List PyData} {vs : List V}, allD ws = some ps → RVs K φ H ws vs → DaAll K φ.av H ps vs
  | [], _, _, e, r => by cases e; exact r
  | .d p :: ws, _, _, e, ⟨v, vs, ev, r, rs⟩ => by
    obtain ⟨q, e1, e2⟩ := Option.map_eq_some_iff.mp e
    cases e2
    exact ⟨v, vs, ev, r, allD_da e1 rs⟩
  | .loc n :: _, _, _, e, _ => by cases e
  | .kl n :: _, _, _, e, _ => by cases e
@[simp] def eTup (f : AF) (ρ : Rho) (μ : Mu) : Option (Vw × Mu) := match f ρ μ with
  | some (ws, μ1) => (match allD ws with
    | some ps => if ps.length ≤ 1000000 then some (.d (.tuple ps), μ1) else none
    | none => none)
  | none => none
@[simp] def eLst (f : AF) (ρ : Rho) (μ : Mu) : Option (Vw × Mu) := match f ρ μ with
  | some (ws, μ1) => (match allD ws with
    | some ps => if ps.length ≤ 1000000 then some (.d (.list ps), μ1) else none
    | none => none)
  | none => none
theorem size_ok {n : Nat} (h : n ≤ 1000000) : n ≤ sizeLine := by rw [sizeLine_eq]; omega
theorem size_lt {n : Nat} (h : n ≤ 1000000) : n < sizeLine := by rw [sizeLine_eq]; omega
theorem new_tup {K : PySem.W.Frag} {φ : Ph} {H : Hp} {μ : Mu} {ps : List PyData} {vs : List V} {Q : VK} (c : Cells K φ H μ) (hs : DaAll K φ.av H ps vs) (k : Post K φ H μ (.d (.tuple ps)) Q) : ∀ p, H p = none → Q (.ref p) (upd H p (.tup vs)) := fun p hp =>
  k φ _ _ (Grow.laid hp) (c.laid hp) ⟨p, vs, rfl, SqT.of upd_same, DaAll.step (Grow.laid hp).w _ _ hs⟩
theorem new_lst {K : PySem.W.Frag} {φ : Ph} {H : Hp} {μ : Mu} {ps : List PyData} {vs : List V} {Q : VK} (c : Cells K φ H μ) (hs : DaAll K φ.av H ps vs) (k : Post K φ H μ (.d (.list ps)) Q) : ∀ p, H p = none → Q (.ref p) (upd H p (.lst vs)) := fun p hp =>
  k φ _ _ (Grow.laid hp) (c.laid hp) ⟨p, vs, rfl, c.notin hp, upd_same, DaAll.step (Grow.laid hp).w _ _ hs⟩
theorem ej_tup {es : List Expr} {x1} {f : AF} (h : PA X es (tA X.K f)) : PE X (.Tuple es x1 pos) (tE X.K (eTup f)) := PE.to (pe_tup h) fun σ H Q ⟨φ, ρ, μ, w, μ', rs, e, k⟩ => by
  unfold eTup at e
  split at e
  · rename_i ws μ1 e1
    split at e
    · rename_i ps e2
      split at e
      · rename_i hl
        cases e
        refine ⟨φ, ρ, μ, ws, _, rs, e1, fun φ1 vs H1 g1 c1 r1 => ?_⟩
        have hd := allD_da e2 r1
        refine ⟨by rw [← hd.len]; exact size_ok hl, ?_⟩
        exact new_tup c1 hd fun φ2 v2 H2 g2 c2 r2 => k φ2 v2 H2 (g1.trans g2) c2 r2
      · cases e
    · cases e
  · cases e
theorem ej_lst {es : List Expr} {f : AF} (h : PA X es (tA X.K f)) : PE X (.List es pos) (tE X.K (eLst f)) := PE.to (pe_lst h) fun σ H Q ⟨φ, ρ, μ, w, μ', rs, e, k⟩ => by
  unfold eLst at e
  split at e
  · rename_i ws μ1 e1
    split at e
    · rename_i ps e2
      split at e
      · rename_i hl
        cases e
        refine ⟨φ, ρ, μ, ws, _, rs, e1, fun φ1 vs H1 g1 c1 r1 => ?_⟩
        have hd := allD_da e2 r1
        refine ⟨by rw [← hd.len]; exact size_ok hl, ?_⟩
        exact new_lst c1 hd fun φ2 v2 H2 g2 c2 r2 => k φ2 v2 H2 (g1.trans g2) c2 r2
      · cases e
    · cases e
  · cases e
end
end VL
end
section
set_option Elab.async false
set_option linter.all false
set_option maxRecDepth 100000
namespace VL
open PySem PySem.Spec PyProof.Rows L2
variable [LawTabs]
section
variable {K : PySem.W.Frag} {φ : Ph} {A : List Addr} {H : Hp} {μ : Mu}
/-- the items of a list (data, changed, from outside) -/
@[simp] def toL (μ : Mu) : Vw → Option (List PyData)
  | .d (.list ds) => some ds
  | .loc n => μ[n]?
  | .kl ns => some (ns.map PyData.int)
  | _ => none
/-- a tracked list's items -/
@[simp] def toLm (μ : Mu) : Vw → Option (List PyData)
  | .d (.list ds) => some ds
  | .loc n => μ[n]?
  | _ => none
/-- as data -/
@[simp] def toD (μ : Mu) : Vw → Option PyData
  | .d p => some p
  | .loc n => (μ[n]?).map PyData.list
  | .kl ns => some (.list (ns.map PyData.int))
  | .rg _ _ => none
theorem toLm_ok (c : Cells K φ H μ) {w : Vw} {v : V} {ds : List PyData} (r : RV K φ H w v) (e : toLm μ w = some ds) : ∃ a xs, v = .ref a ∧ H a = some (.lst xs) ∧ DaAll K φ.av H ds xs := by
  cases w with
  | d p =>
    cases p with
    | list es =>
      cases e
      obtain ⟨a, xs, e1, _, e3, e4⟩ := r
      exact ⟨a, xs, e1, e3, e4⟩
    | _ => cases e
  | loc n =>
    obtain ⟨a, h1, h2⟩ := r
    obtain ⟨xs, h3, h4⟩ := c.at_ n a ds h1 e
    exact ⟨a, xs, h2, h3, h4⟩
  | kl ns => cases e
  | rg lo hi => cases e
theorem toL_ok (c : Cells K φ H μ) {w : Vw} {v : V} {ds : List PyData} (r : RV K φ H w v) (e : toL μ w = some ds) : ∃ a xs, v = .ref a ∧ SqL K H a xs ∧ DaAll K φ.av H ds xs := by
  cases w with
  | kl ns =>
    cases e
    obtain ⟨a, h1, h2⟩ := r
    exact ⟨a, _, h1, h2.sq, DaAll.ints ns⟩
  | rg lo hi => cases e
  | d p =>
    obtain ⟨a, xs, h1, h2, h3⟩ := toLm_ok c (w := .d p) (ds := ds) r (by cases p <;> first | exact e | cases e)
    exact ⟨a, xs, h1, SqL.of h2, h3⟩
  | loc n =>
    obtain ⟨a, xs, h1, h2, h3⟩ := toLm_ok c (w := .loc n) (ds := ds) r e
    exact ⟨a, xs, h1, SqL.of h2, h3⟩
/-! as L2's data -/
mutual
theorem Da.dp : ∀ (p : PyData) (v : V), p.plain = true → Da K A H p v → Dp K H v p
  | .none, _, _, h => by cases h; exact .non
  | .bool _, _, _, h => by cases h; exact .bl _
  | .int _, _, _, h => by cases h; exact .int _
  | .str _, _, _, h => by cases h; exact .str _
  | .list ds, _, z, ⟨a, xs, e, hn, h, hs⟩ => by rw [e]; exact .lst (SqL.of h) (DaAll.dp ds xs z hs)
  | .tuple ds, _, z, ⟨a, xs, e, h, hs⟩ => by rw [e]; exact .tup h (DaAll.dp ds xs z hs)
  | .dict _, _, z, _ => by cases z
theorem DaAll.dp : ∀ (ds : List PyData) (xs : List V), PyData.plainAll ds = true → DaAll K A H ds xs → DpAll K H xs ds
  | [], _, _, h => by rw [show _ = _ from h]; exact .nil
  | d :: ds, _, z, ⟨v, vs, e, h, hs⟩ => by
    obtain ⟨z1, z2⟩ := Bool.and_eq_true_iff.mp z
    rw [e]; exact .cons (Da.dp d v z1 h) (DaAll.dp ds vs z2 hs)
end
theorem plain_ints : ∀ ns : List Int, PyData.plainAll (ns.map PyData.int) = true
  | [] => rfl
  | n :: ns => by rw [List.map_cons, PyData.plainAll, plain_ints ns]; rfl
theorem dp_ints : ∀ ns : List Int, DpAll K H (ns.map V.int) (ns.map PyData.int)
  | [] => .nil
  | n :: ns => .cons (.int n) (dp_ints ns)
theorem toD_ok (c : Cells K φ H μ) {w : Vw} {v : V} {p : PyData} (r : RV K φ H w v) (e : toD μ w = some p) (z : p.plain = true) : Dp K H v p := by
  cases w with
  | d q => cases e; exact Da.dp p v z r
  | loc n =>
    obtain ⟨ds, e1, e2⟩ := Option.map_eq_some_iff.mp e
    cases e2
    obtain ⟨a, h1, h2⟩ := r
    obtain ⟨xs, h3, h4⟩ := c.at_ n a ds h1 e1
    rw [h2]
    exact .lst (SqL.of h3) (DaAll.dp ds xs z h4)
  | kl ns =>
    cases e
    obtain ⟨a, h1, h2⟩ := r
    rw [h1]
    exact .lst h2.sq (dp_ints ns)
  | rg lo hi => cases e
theorem post_here {w : Vw} {Q : VK} {v : V} (k : Post K φ H μ w Q) (c : Cells K φ H μ) (r : RV K φ H w v) : Q v H := k φ v H (.refl _ _) c r
end
/-! ### numbers -/
@[simp] def iiO (C : Int → Int → Bool) (g : Int → Int → PyData) (_ : Mu) (x y : Vw) : Option Vw := match x, y with
  | .d (.int i), .d (.int j) => if C i j = true then some (.d (g i j)) else none
  | _, _ => none
def vOf : PyData → V
  | .int i => .int i
  | .bool b => .bl b
  | _ => .non
theorem iiO_ok {K : PySem.W.Frag} {C : Int → Int → Bool} {g : Int → Int → PyData} {C' : Int → Int → Prop} {g' : Int → Int → V} (hC : ∀ i j, C i j = true → C' i j) (hg : ∀ i j φ H, Da K φ H (g i j) (g' i j)) : O2 K (rI C' g') (iiO C g) := by
  intro φ H μ x y w u v Q c rx ry e k
  unfold iiO at e
  split at e
  · rename_i i j
    split at e
    · rename_i hc
      cases e
      exact ⟨i, j, rx, ry, hC i j hc, post_here k c (hg i j φ.av H)⟩
    · cases e
  · cases e
theorem iiO_ok0 {K : PySem.W.Frag} {g : Int → Int → PyData} {g' : Int → Int → V} (hg : ∀ i j φ H, Da K φ H (g i j) (g' i j)) : O2 K (rI0 g') (iiO (fun _ _ => true) g) := by
  intro φ H μ x y w u v Q c rx ry e k
  unfold iiO at e
  split at e
  · rename_i i j
    rw [if_pos rfl] at e
    cases e
    exact ⟨i, j, rx, ry, post_here k c (hg i j φ.av H)⟩
  · cases e
def CDivZ (i j : Int) : Prop := j ≠ 0 ∧ j.natAbs.log2 < 9000
theorem op_fdivZ {X : Cx} : OpR X (binaryOp .FloorDiv) (rI CDivZ fun i j => .int (i.fdiv j)) := opI fun _ _ _ _ _ _ _ hc q => floordiv_int hc.1 q (.inl (PyProof.noPylong_of_log2 hc.2))
abbrev oSub := iiO (fun _ _ => true) fun i j => .int (i - j)
/-- a factor is small, or both together are not too long -/
def mulOk (i j : Int) : Bool := decide ((i.natAbs < 2 ^ 64 ∨ j.natAbs < 2 ^ 64) ∨ i.natAbs.log2 + j.natAbs.log2 < 1000000)
def divOk (_ j : Int) : Bool := decide (j ≠ 0 ∧ j.natAbs.log2 < 9000)
theorem mulOk_l {i j : Int} (h : i.natAbs < 2 ^ 64) : mulOk i j = true := decide_eq_true (.inl (.inl h))
theorem mulOk_r {i j : Int} (h : j.natAbs < 2 ^ 64) : mulOk i j = true := decide_eq_true (.inl (.inr h))
theorem mulOk_w {i j : Int} {a b : Nat} (ha : i.natAbs < 2 ^ a) (hb : j.natAbs < 2 ^ b) (h : a + b ≤ 999998) : mulOk i j = true := by
  refine decide_eq_true (.inr ?_)
  have h1 := PySem.Flt.log2_lt_of (Nat.succ_pos a) (Nat.lt_of_lt_of_le ha (Nat.pow_le_pow_right (by decide) (Nat.le_succ a)))
  have h2 := PySem.Flt.log2_lt_of (Nat.succ_pos b) (Nat.lt_of_lt_of_le hb (Nat.pow_le_pow_right (by decide) (Nat.le_succ b)))
  omega
theorem divOk_of {i j : Int} {b : Nat} (h : j ≠ 0) (hb : j.natAbs < 2 ^ b) (h9 : b ≤ 8999) : divOk i j = true := by
  refine decide_eq_true ⟨h, ?_⟩
  have h2 := PySem.Flt.log2_lt_of (Nat.succ_pos b) (Nat.lt_of_lt_of_le hb (Nat.pow_le_pow_right (by decide) (Nat.le_succ b)))
  omega
abbrev oMul := iiO mulOk fun i j => .int (i * j)
abbrev oDiv := iiO divOk fun i j => .int (i.fdiv j)
def CMulV (i j : Int) : Prop := CMul i j ∨ CMulW i j
theorem op_mulV {X : Cx} : OpR X (binaryOp .Mult) (rI CMulV fun i j => .int (i * j)) := opI fun _ _ _ _ _ _ _ hc q => mul_int q (hc.elim (·.ok) (·.ok))
theorem mulOk_C {i j : Int} (h : mulOk i j = true) : CMulV i j := by
  rcases of_decide_eq_true h with (h | h) | h
  · exact .inl (.inl (by omega))
  · exact .inl (.inr (by omega))
  · exact .inr h
abbrev oMod := iiO (fun i j => decide (j ≠ 0)) fun i j => .int (i.fmod j)
abbrev oPow := iiO (fun i j => decide (0 ≤ j ∧ j ≤ 1000000 ∧ i.natAbs < 2 ^ 64)) fun i j => .int (i ^ j.toNat)
abbrev oLt := iiO (fun _ _ => true) fun i j => .bool (decide (i < j))
abbrev oLe := iiO (fun _ _ => true) fun i j => .bool (decide (i ≤ j))
abbrev oGt := iiO (fun _ _ => true) fun i j => .bool (decide (j < i))
abbrev oGe := iiO (fun _ _ => true) fun i j => .bool (decide (j ≤ i))
/-- + : ints, tuples, texts, lists -/
@[simp] def oAdd (μ : Mu) (x y : Vw) : Option Vw := match x, y with
  | .d (.int i), .d (.int j) => some (.d (.int (i + j)))
  | .d (.tuple xs), .d (.tuple ys) => if xs.length + ys.length ≤ 1000000 then some (.d (.tuple (xs ++ ys))) else none
  | x, y => match toLm μ x, toLm μ y with
    | some xs, some ys => if xs.length + ys.length ≤ 1000000 then some (.d (.list (xs ++ ys))) else none
    | _, _ => none
def rAddV (K : PySem.W.Frag) : R2 := fun x y H Q => rI0 (fun i j => .int (i + j)) x y H Q ∨ (rCatA K x y H Q ∨ rCat x y H Q)
theorem op_addV {X : Cx} : OpR X (binaryOp .Add) (rAddV X.K) := OpR.or op_add (OpR.or op_catA op_cat)
theorem oAdd_ok {K : PySem.W.Frag} : O2 K (rAddV K) oAdd := by
  intro φ H μ x y w u v Q c rx ry e k
  unfold oAdd at e
  split at e
  · rename_i i j
    cases e
    exact .inl ⟨i, j, rx, ry, post_here k c rfl⟩
  · rename_i xs ys
    split at e
    · rename_i hl
      cases e
      obtain ⟨a, us, e1, h1, s1⟩ := rx
      obtain ⟨b, vs, e2, h2, s2⟩ := ry
      have l1 := s1.len
      have l2 := s2.len
      refine .inr (.inl ⟨a, b, us, vs, e1, e2, h1, h2, size_ok (by omega), fun z => ?_, fun _ z => ?_, fun _ _ => ?_⟩)
      · subst z
        have : xs = [] := List.eq_nil_of_length_eq_zero l1
        subst this
        exact post_here k c (show RV K φ H (.d (.tuple ([] ++ ys))) _ from ⟨b, vs, rfl, h2, s2⟩)
      · subst z
        have : ys = [] := List.eq_nil_of_length_eq_zero l2
        subst this
        exact post_here k c (show RV K φ H (.d (.tuple (xs ++ []))) _ from ⟨a, us, rfl, h1, by rw [List.append_nil]; exact s1⟩)
      · exact new_tup c (s1.append s2) k
    · cases e
  · split at e
    · rename_i xs ys e1 e2
      split at e
      · rename_i hl
        cases e
        obtain ⟨a, us, q1, h1, s1⟩ := toLm_ok c rx e1
        obtain ⟨b, vs, q2, h2, s2⟩ := toLm_ok c ry e2
        have l1 := s1.len
        have l2 := s2.len
        exact .inr (.inr ⟨a, b, us, vs, q1, q2, h1, h2, size_ok (by omega), new_lst c (s1.append s2) k⟩)
      · cases e
    · cases e
section
variable {X : Cx} {a b : Expr} {pos : Pos} {f g : EF}
theorem ej_add (ha : PE X a (tE X.K f)) (hb : PE X b (tE X.K g)) : PE X (.BinOp a .Add b pos) (tE X.K (eB2 oAdd f g)) := ej_op op_addV oAdd_ok ha hb
theorem ej_sub (ha : PE X a (tE X.K f)) (hb : PE X b (tE X.K g)) : PE X (.BinOp a .Sub b pos) (tE X.K (eB2 oSub f g)) := ej_op op_sub (iiO_ok0 fun _ _ _ _ => rfl) ha hb
theorem ej_mul (ha : PE X a (tE X.K f)) (hb : PE X b (tE X.K g)) : PE X (.BinOp a .Mult b pos) (tE X.K (eB2 oMul f g)) := ej_op op_mulV (iiO_ok (fun i j h => mulOk_C h) fun _ _ _ _ => rfl) ha hb
theorem ej_div (ha : PE X a (tE X.K f)) (hb : PE X b (tE X.K g)) : PE X (.BinOp a .FloorDiv b pos) (tE X.K (eB2 oDiv f g)) := ej_op op_fdivZ (iiO_ok (fun i j h => show j ≠ 0 ∧ j.natAbs.log2 < 9000 from of_decide_eq_true h) fun _ _ _ _ => rfl) ha hb
theorem ej_mod (ha : PE X a (tE X.K f)) (hb : PE X b (tE X.K g)) : PE X (.BinOp a .Mod b pos) (tE X.K (eB2 oMod f g)) := ej_op op_modN (iiO_ok (fun _ _ h => of_decide_eq_true h) fun _ _ _ _ => rfl) ha hb
theorem ej_pow (ha : PE X a (tE X.K f)) (hb : PE X b (tE X.K g)) : PE X (.BinOp a .Pow b pos) (tE X.K (eB2 oPow f g)) := ej_op op_pow (iiO_ok (fun i j h => show 0 ≤ j ∧ j ≤ 1000000 ∧ i.natAbs < 2 ^ 64 from of_decide_eq_true h) fun _ _ _ _ => rfl) ha hb
end
@[simp] def oNeg (_ : Mu) (x : Vw) : Option Vw := match x with
  | .d (.int i) => some (.d (.int (-i)))
  | _ => none
theorem oNeg_ok {K : PySem.W.Frag} : O1 K (rU fun i => .int (-i)) oNeg := by
  intro φ H μ x w u Q c rx e k
  unfold oNeg at e
  split at e
  · rename_i i
    cases e
    exact ⟨i, rx, post_here k c rfl⟩
  · cases e
theorem ej_neg {X : Cx} {a : Expr} {pos : Pos} {f : EF} (ha : PE X a (tE X.K f)) : PE X (.UnaryOp .USub a pos) (tE X.K (eB1 oNeg f)) := ej_un un_neg oNeg_ok ha
/-! ### comparisons -/
@[simp] def oEq (neg : Bool) (μ : Mu) (x y : Vw) : Option Vw := match toD μ x, toD μ y with
  | some p, some q => if (p.plain && q.plain && decide (min p.depth q.depth ≤ 100)) = true then some (.d (.bool (if neg then !PyData.eqv p q else PyData.eqv p q))) else none
  | _, _ => none
def rEqP (K : PySem.W.Frag) (neg : Bool) : R2 := fun x y H Q => ∃ p q, Dp K H x p ∧ Dp K H y q ∧ p.plain = true ∧ q.plain = true ∧ min p.depth q.depth ≤ 100 ∧ Q (.bl (if neg then !PyData.eqv p q else PyData.eqv p q)) H
theorem op_eqP {X : Cx} (hu : X.A.units + 200 < cLine) : OpR X (compareOp .Eq) (rEqP X.K false) := by
  intro pins s σ H x y v u Q I rx ry h
  obtain ⟨d, e, hd, he, sd, se, hm, q⟩ := h
  obtain ⟨as, r1⟩ := Dp.reads I d x v hd rx
  obtain ⟨bs, r2⟩ := Dp.reads I e y u he ry
  exact SeqAt.eq_plain r1 r2 sd se (by omega) ⟨.bl _, H, I, rfl, q⟩
theorem op_neP {X : Cx} (hu : X.A.units + 200 < cLine) : OpR X (compareOp .NotEq) (rEqP X.K true) := by
  intro pins s σ H x y v u Q I rx ry h
  obtain ⟨d, e, hd, he, sd, se, hm, q⟩ := h
  obtain ⟨as, r1⟩ := Dp.reads I d x v hd rx
  obtain ⟨bs, r2⟩ := Dp.reads I e y u he ry
  exact SeqAt.ne_plain r1 r2 sd se (by omega) ⟨.bl _, H, I, rfl, q⟩
theorem oEq_ok {K : PySem.W.Frag} {neg : Bool} : O2 K (rEqP K neg) (oEq neg) := by
  intro φ H μ x y w u v Q c rx ry e k
  unfold oEq at e
  split at e
  · rename_i p q e1 e2
    split at e
    · rename_i hc
      cases e
      simp only [Bool.and_eq_true, decide_eq_true_eq] at hc
      obtain ⟨⟨h1, h2⟩, h3⟩ := hc
      exact ⟨p, q, toD_ok c rx e1 h1, toD_ok c ry e2 h2, h1, h2, h3, post_here k c rfl⟩
    · cases e
  · cases e
/-- in, not in a list, a tuple -/
@[simp] def oIn (neg : Bool) (μ : Mu) (x y : Vw) : Option Vw := match toD μ x, toD μ y with
  | some p, some (.list qs) => if (p.plain && PyData.plainAll qs && decide (min (PyData.depthAll qs) p.depth ≤ 100)) = true then some (.d (.bool (if neg then !qs.any fun z => PyData.eqv z p else qs.any fun z => PyData.eqv z p))) else none
  | some p, some (.tuple qs) => if (p.plain && PyData.plainAll qs && decide (min (PyData.depthAll qs) p.depth ≤ 100)) = true then some (.d (.bool (if neg then !qs.any fun z => PyData.eqv z p else qs.any fun z => PyData.eqv z p))) else none
  | _, _ => none
def rInP (K : PySem.W.Frag) (neg : Bool) : R2 := fun x y H Q => ∃ p qs, Dp K H x p ∧ (Dp K H y (.list qs) ∨ Dp K H y (.tuple qs)) ∧ p.plain = true ∧ PyData.plainAll qs = true ∧ min (PyData.depthAll qs) p.depth ≤ 100 ∧ Q (.bl (if neg then !qs.any fun z => PyData.eqv z p else qs.any fun z => PyData.eqv z p)) H
theorem op_inP {X : Cx} (hu : X.A.units + 200 < cLine) : OpR X (compareOp .In) (rInP X.K false) := by
  intro pins s σ H x y v u Q I rx ry h
  obtain ⟨d, e, hd, he, sd, se, hm, q⟩ := h
  obtain ⟨as, r1⟩ := Dp.reads I d x v hd rx
  rcases he with he | he
  · obtain ⟨bs, r2⟩ := Dp.reads I _ y u he ry
    exact SeqAt.in_list_data r2 r1 se sd (by omega) ⟨.bl _, H, I, rfl, q⟩
  · obtain ⟨bs, r2⟩ := Dp.reads I _ y u he ry
    exact SeqAt.in_tuple_data r2 r1 se sd (by omega) ⟨.bl _, H, I, rfl, q⟩
theorem op_niP {X : Cx} (hu : X.A.units + 200 < cLine) : OpR X (compareOp .NotIn) (rInP X.K true) := by
  intro pins s σ H x y v u Q I rx ry h
  obtain ⟨d, e, hd, he, sd, se, hm, q⟩ := h
  obtain ⟨as, r1⟩ := Dp.reads I d x v hd rx
  rcases he with he | he
  · obtain ⟨bs, r2⟩ := Dp.reads I _ y u he ry
    exact SeqAt.notIn_list_data r2 r1 se sd (by omega) ⟨.bl _, H, I, rfl, q⟩
  · obtain ⟨bs, r2⟩ := Dp.reads I _ y u he ry
    exact SeqAt.notIn_tuple_data r2 r1 se sd (by omega) ⟨.bl _, H, I, rfl, q⟩
theorem oIn_ok {K : PySem.W.Frag} {neg : Bool} : O2 K (rInP K neg) (oIn neg) := by
  intro φ H μ x y w u v Q c rx ry e k
  unfold oIn at e
  split at e
  · rename_i p qs e1 e2
    split at e
    · rename_i hc
      cases e
      simp only [Bool.and_eq_true, decide_eq_true_eq] at hc
      obtain ⟨⟨h1, h2⟩, h3⟩ := hc
      exact ⟨p, qs, toD_ok c rx e1 h1, .inl (toD_ok c ry e2 h2), h1, h2, h3, post_here k c rfl⟩
    · cases e
  · rename_i p qs e1 e2
    split at e
    · rename_i hc
      cases e
      simp only [Bool.and_eq_true, decide_eq_true_eq] at hc
      obtain ⟨⟨h1, h2⟩, h3⟩ := hc
      exact ⟨p, qs, toD_ok c rx e1 h1, .inr (toD_ok c ry e2 h2), h1, h2, h3, post_here k c rfl⟩
    · cases e
  · cases e
/-- x is None, x is not None -/
@[simp] def oIs (neg : Bool) (μ : Mu) (x y : Vw) : Option Vw := match x, y with
  | .d p, .d .none => some (.d (.bool (match p with
    | .none => !neg
    | _ => neg)))
  | _, _ => none
theorem oIs_ok {K : PySem.W.Frag} : O2 K (fun x y H Q => y = .non ∧ Q (.bl (decide (x = .non))) H) (oIs false) := by
  intro φ H μ x y w u v Q c rx ry e k
  unfold oIs at e
  split at e
  · rename_i p
    cases e
    refine ⟨ry, ?_⟩
    cases p with
    | none => cases rx; exact post_here k c rfl
    | bool _ => cases rx; exact post_here k c rfl
    | int _ => cases rx; exact post_here k c rfl
    | str _ => cases rx; exact post_here k c rfl
    | list _ => obtain ⟨a, _, e, _⟩ := rx; subst e; exact post_here k c rfl
    | tuple _ => obtain ⟨a, _, e, _⟩ := rx; subst e; exact post_here k c rfl
    | dict _ =>
      rcases rx with ⟨_, a, e, _⟩ | ⟨x, _, e⟩
      · subst e; exact post_here k c rfl
      · subst e; exact post_here k c rfl
  · cases e
theorem oIsNot_ok {K : PySem.W.Frag} : O2 K (fun x y H Q => y = .non ∧ Q (.bl (!decide (x = .non))) H) (oIs true) := by
  intro φ H μ x y w u v Q c rx ry e k
  unfold oIs at e
  split at e
  · rename_i p
    cases e
    refine ⟨ry, ?_⟩
    cases p with
    | none => cases rx; exact post_here k c rfl
    | bool _ => cases rx; exact post_here k c rfl
    | int _ => cases rx; exact post_here k c rfl
    | str _ => cases rx; exact post_here k c rfl
    | list _ => obtain ⟨a, _, e, _⟩ := rx; subst e; exact post_here k c rfl
    | tuple _ => obtain ⟨a, _, e, _⟩ := rx; subst e; exact post_here k c rfl
    | dict _ =>
      rcases rx with ⟨_, a, e, _⟩ | ⟨x, _, e⟩
      · subst e; exact post_here k c rfl
      · subst e; exact post_here k c rfl
  · cases e
/-! ### items -/
@[simp] def oIx (μ : Mu) (x y : Vw) : Option Vw := match x, y with
  | .d (.tuple ds), .d (.int i) => (atI ds i).map Vw.d
  | x, .d (.int i) => (toL μ x).bind fun ds => (atI ds i).map Vw.d
  | _, _ => none
def rIxV (K : PySem.W.Frag) : R2 := fun x y H Q => rIxL K x y H Q ∨ rIxT K x y H Q
theorem ix_V {X : Cx} : IxR X (rIxV X.K) := IxR.or ix_list ix_tup
theorem atI_da {K : PySem.W.Frag} {φ : List Addr} {H : Hp} {ds : List PyData} {xs : List V} {i : Int} {d : PyData} (h : DaAll K φ H ds xs) (e : atI ds i = some d) : ∃ v, atI xs i = some v ∧ Da K φ H d v := by
  unfold atI at e ⊢
  rw [← h.len]
  cases q : ixN ds.length i with
  | none => rw [q] at e; cases e
  | some j =>
    rw [q] at e
    exact h.get (show ds[j]? = some d from e)
theorem oIx_ok {K : PySem.W.Frag} : O2 K (rIxV K) oIx := by
  intro φ H μ x y w u v Q c rx ry e k
  unfold oIx at e
  split at e
  · rename_i ds i
    obtain ⟨d, e1, e2⟩ := Option.map_eq_some_iff.mp e
    cases e2
    obtain ⟨a, xs, q, h, s⟩ := rx
    obtain ⟨z, z1, z2⟩ := atI_da s e1
    exact .inr ⟨a, xs, i, z, q, ry, h, z1, post_here k c z2⟩
  · rename_i i hne
    obtain ⟨ds, e0, e⟩ := Option.bind_eq_some_iff.mp e
    obtain ⟨d, e1, e2⟩ := Option.map_eq_some_iff.mp e
    cases e2
    obtain ⟨a, xs, q, h, s⟩ := toL_ok c rx e0
    obtain ⟨z, z1, z2⟩ := atI_da s e1
    exact .inl ⟨a, xs, i, z, q, ry, h, z1, post_here k c z2⟩
  · cases e
section
variable {X : Cx} {a b : Expr} {pos : Pos} {f g : EF}
theorem ej_item (ha : PE X a (tE X.K f)) (hb : PE X b (tE X.K g)) (hs : PlainIx b := by exact fun _ _ => rfl) : PE X (.Subscript a b pos) (tE X.K (eB2 oIx f g)) := ej_ix ix_V oIx_ok ha hb hs
end
end VL
end
section
set_option Elab.async false
set_option linter.all false
set_option maxRecDepth 100000
namespace VL
open PySem PySem.Spec PyProof.Rows L2
variable [LawTabs]
theorem wipe_put {i : Nat} {v : V} {σ : L2.St} : ∀ {us : List Nat}, i ∈ us → wipe (σ.set i (some v)) us = wipe σ us
  | [], h => by cases h
  | u :: us, h => by
    unfold wipe
    by_cases e : i ∈ us
    · rw [wipe_put e]
    · have e2 : i = u := by
        rcases List.mem_cons.mp h with h | h
        · exact h
        · exact absurd h e
      subst e2
      apply List.ext_getElem?
      intro j
      by_cases ej : j = i
      · subst ej
        by_cases hl : j < σ.length
        · rw [List.getElem?_set_self (by rw [wipe_length, List.length_set]; exact hl), List.getElem?_set_self (by rw [wipe_length]; exact hl)]
        · rw [List.getElem?_eq_none (by simp [wipe_length]; omega), List.getElem?_eq_none (by simp [wipe_length]; omega)]
      · rw [List.getElem?_set_ne (Ne.symm ej), List.getElem?_set_ne (Ne.symm ej)]
        by_cases hj : j ∈ us
        · have aux : ∀ (τ τ' : L2.St) (ws : List Nat), τ.length = τ'.length → j ∈ ws → (wipe τ ws)[j]? = (wipe τ' ws)[j]? := by
            intro τ τ' ws hlen
            induction ws with
            | nil => intro z; cases z
            | cons w ws ih =>
              intro z
              unfold wipe
              by_cases ew : j = w
              · subst ew
                by_cases hl : j < τ.length
                · rw [List.getElem?_set_self (by rw [wipe_length]; exact hl), List.getElem?_set_self (by rw [wipe_length, ← hlen]; exact hl)]
                · rw [List.getElem?_eq_none (by simp [wipe_length]; omega), List.getElem?_eq_none (by simp [wipe_length]; omega)]
              · rw [List.getElem?_set_ne (Ne.symm ew), List.getElem?_set_ne (Ne.symm ew)]
                exact ih ((List.mem_cons.mp z).resolve_left ew)
          exact aux _ _ us (by simp) hj
        · rw [wipe_out hj, wipe_out hj, List.getElem?_set_ne (Ne.symm ej)]
/-! ### targets -/
abbrev TF := Vw → Rho → Option Rho
abbrev TLF := List PyData → Rho → Option Rho
@[simp] def tNm (i : Nat) (w : Vw) (ρ : Rho) : Option Rho := some (ρ.set i (some w))
@[simp] def tTp (t : TLF) (w : Vw) (ρ : Rho) : Option Rho := match w with
  | .d (.tuple ds) => t ds ρ
  | _ => none
@[simp] def lNil (ds : List PyData) (ρ : Rho) : Option Rho := match ds with
  | [] => some ρ
  | _ :: _ => none
@[simp] def lCons (t : TF) (u : TLF) (ds : List PyData) (ρ : Rho) : Option Rho := match ds with
  | [] => none
  | d :: r => (t (.d d) ρ).bind (u r)
def tG (K : PySem.W.Frag) (t : TF) (vs : List Nat) : TG := fun v σ H Q => ∃ φ ρ μ w ρ', RS K φ σ H ρ μ ∧ RV K φ H w v ∧ t w ρ = some ρ' ∧ ∀ σ', RS K φ σ' H ρ' μ → (∀ us : List Nat, (∀ i ∈ vs, i ∈ us) → wipe σ' us = wipe σ us) → Q σ' H
def tGs (K : PySem.W.Frag) (n : Nat) (t : TLF) (vs : List Nat) : TGs := fun xs σ H Q => ∃ φ ρ μ ds ρ', RS K φ σ H ρ μ ∧ DaAll K φ.av H ds xs ∧ t ds ρ = some ρ' ∧ ∀ σ', RS K φ σ' H ρ' μ → (∀ us : List Nat, (∀ i ∈ vs, i ∈ us) → wipe σ' us = wipe σ us) → Q σ' H
theorem PG.to {X : Cx} {e : Expr} {t u : TG} (h : PG X e t) (k : ∀ v σ H Q, u v σ H Q → t v σ H Q) : PG X e u := ⟨fun pins s σ H x v Q I r q => h.run pins s σ H x v Q I r (k x σ H Q q)⟩
theorem PGs.to {X : Cx} {e : List Expr} {t u : TGs} (h : PGs X e t) (k : ∀ v σ H Q, u v σ H Q → t v σ H Q) : PGs X e u := ⟨fun pins s σ H x v Q I r q => h.run pins s σ H x v Q I r (k x σ H Q q)⟩
section
variable {X : Cx} {pos : Pos}
theorem gj_nm (i : Nat) {x : Str} (hN : X.N.Nodup) (hi : X.N[i]? = some x := by rfl) (hx : Loc X.env.scope x := by first | exact Or.inl rfl | exact Or.inr rfl) (hf : X.fn x = true ∨ X.env.scope.names.lookup x = some .local := by first | exact .inl rfl | exact .inr rfl) : PG X (.Name x pos) (tG X.K (tNm i) [i]) :=
  PG.to (pg_name hN hi hx hf) fun v σ H Q ⟨φ, ρ, μ, w, ρ', rs, rv, e, k⟩ => by
    cases e
    exact k _ (rs.put rv) fun us hu => wipe_put (hu i (by simp))
theorem gjs_nil : PGs X [] (tGs X.K 0 lNil []) := PGs.to pgs_nil fun xs σ H Q ⟨φ, ρ, μ, ds, ρ', rs, hd, e, k⟩ => by
  cases ds with
  | nil => cases e; exact ⟨hd, k σ rs fun _ _ => rfl⟩
  | cons d ds => cases e
theorem gjs_cons {a : Expr} {es : List Expr} {t : TF} {u : TLF} {vs ws : List Nat} {n : Nat} (h1 : PG X a (tG X.K t vs)) (h2 : PGs X es (tGs X.K n u ws)) (hs : (assignEach (a :: es) X.env).map (·.2) = assign a X.env :: (assignEach es X.env).map (·.2) := by rfl) :
    PGs X (a :: es) (tGs X.K (n + 1) (lCons t u) (vs ++ ws)) := PGs.to (pgs_cons h1 h2 hs) fun xs σ H Q ⟨φ, ρ, μ, ds, ρ', rs, hd, e, k⟩ => by
  cases ds with
  | nil => cases e
  | cons d ds =>
    obtain ⟨v, r, ev, h3, h4⟩ := hd
    obtain ⟨ρ1, e1, e2⟩ := Option.bind_eq_some_iff.mp e
    refine ⟨v, r, ev, φ, ρ, μ, .d d, ρ1, rs, h3, e1, fun σ1 rs1 w1 => ?_⟩
    refine ⟨φ, ρ1, μ, ds, ρ', rs1, h4, e2, fun σ2 rs2 w2 => ?_⟩
    exact k σ2 rs2 fun us hu => (w2 us fun i hi => hu i (List.mem_append_right _ hi)).trans (w1 us fun i hi => hu i (List.mem_append_left _ hi))
theorem tlf_len : True := trivial
theorem gj_tp {es : List Expr} {k : Nat} {u : TLF} {vs : List Nat} {n : Nat} (hc : X.calm = true) (h : PGs X es (tGs X.K n u vs)) (hl : ∀ ds ρ ρ', u ds ρ = some ρ' → ds.length = n)
    (hn : (assignEach es X.env).length = n := by rfl) (hst : (assignEach es X.env).findIdx? (·.1) = none := by rfl) : PG X (.Tuple es k pos) (tG X.K (tTp u) vs) :=
  PG.to (pg_tup hc h hn hst) fun v σ H Q ⟨φ, ρ, μ, w, ρ', rs, rv, e, k⟩ => by
    unfold tTp at e
    split at e
    · rename_i ds
      obtain ⟨a, xs, e1, h1, h2⟩ := rv
      exact ⟨a, xs, e1, h1, by rw [← h2.len]; exact hl ds ρ ρ' e, φ, ρ, μ, ds, ρ', rs, h2, e, k⟩
    · cases e
theorem lNil_len : ∀ ds ρ ρ', lNil ds ρ = some ρ' → ds.length = 0 := fun ds ρ ρ' e => by
  cases ds with
  | nil => rfl
  | cons d ds => cases e
theorem lCons_len {t : TF} {u : TLF} {n : Nat} (h : ∀ ds ρ ρ', u ds ρ = some ρ' → ds.length = n) : ∀ ds ρ ρ', lCons t u ds ρ = some ρ' → ds.length = n + 1 := fun ds ρ ρ' e => by
  cases ds with
  | nil => cases e
  | cons d ds =>
    obtain ⟨ρ1, e1, e2⟩ := Option.bind_eq_some_iff.mp e
    rw [List.length_cons, h ds ρ1 ρ' e2]
/-! ### statements -/
@[simp] def sNx (ρ : Rho) (μ : Mu) : Option SR := some (.nx ρ μ)
@[simp] def sNever (_ : Rho) (_ : Mu) : Option SR := none
@[simp] def sSeq (g h : SF) (ρ : Rho) (μ : Mu) : Option SR := match g ρ μ with
  | some (.nx ρ1 μ1) => h ρ1 μ1
  | r => r
@[simp] def sAsg (f : EF) (t : TF) (ρ : Rho) (μ : Mu) : Option SR := match f ρ μ with
  | some (w, μ1) => (t w ρ).map fun ρ1 => .nx ρ1 μ1
  | none => none
@[simp] def sPar (i j : Nat) (f : AF) (ρ : Rho) (μ : Mu) : Option SR := match f ρ μ with
  | some ([v, w], μ1) => some (.nx ((ρ.set i (some v)).set j (some w)) μ1)
  | _ => none
@[simp] def sIf (t : BF) (g h : SF) (ρ : Rho) (μ : Mu) : Option SR := match t ρ μ with
  | some (true, μ1) => g ρ μ1
  | some (false, μ1) => h ρ μ1
  | none => none
@[simp] def sRet (f : EF) (ρ : Rho) (μ : Mu) : Option SR := (f ρ μ).map fun r => .rt r.1 r.2
@[simp] def sDrop (f : EF) (ρ : Rho) (μ : Mu) : Option SR := (f ρ μ).map fun r => .nx ρ r.2
theorem ssj_nil : PSs X [] (tS X.K sNx) := PSs.to pss_nil fun D σ H ⟨φ, ρ, μ, rs, k⟩ => k φ σ H (.refl _ _) rs
theorem sj_pass : PS X (.Pass pos) (tS X.K sNx) := PS.to ps_pass fun D σ H ⟨φ, ρ, μ, rs, k⟩ => k φ σ H (.refl _ _) rs
theorem sj_never {st : Stmt} : PS X st (tS X.K sNever) := PS.to ps_never fun D σ H ⟨φ, ρ, μ, rs, k⟩ => k
theorem ssj_one {st : Stmt} {g : SF} (h : PS X st (tS X.K g)) : PSs X [st] (tS X.K g) := pss_one h
theorem ssj_cons {st : Stmt} {rest : List Stmt} {g h : SF} (h1 : PS X st (tS X.K g)) (h2 : PSs X rest (tS X.K h)) : PSs X (st :: rest) (tS X.K (sSeq g h)) := PSs.to (pss_cons h1 h2) fun D σ H ⟨φ, ρ, μ, rs, k⟩ => by
  refine ⟨φ, ρ, μ, rs, ?_⟩
  unfold sSeq at k
  cases e : g ρ μ with
  | none => rw [e] at k; exact k
  | some r =>
    rw [e] at k
    cases r with
    | nx ρ1 μ1 => exact fun φ1 σ1 H1 g1 r1 => ⟨φ1, ρ1, μ1, r1, k.grow g1⟩
    | rt w μ1 => exact k
    | bk ρ1 μ1 => exact k
    | ct ρ1 μ1 => exact k
theorem sj_ret {e : Expr} {f : EF} (h : PE X e (tE X.K f)) : PS X (.Return (some e) pos) (tS X.K (sRet f)) := PS.to (ps_ret h) fun D σ H ⟨φ, ρ, μ, rs, k⟩ => by
  unfold sRet at k
  cases e1 : f ρ μ with
  | none => rw [e1] at k; exact k.elim
  | some r =>
    rw [e1] at k
    exact ⟨φ, ρ, μ, r.1, r.2, rs, e1, k⟩
theorem sj_retN : PS X (.Return none pos) (tS X.K (sRet (eC .none))) := PS.to ps_retN fun D σ H ⟨φ, ρ, μ, rs, k⟩ => k φ .non H (.refl _ _) rs.c rfl
theorem sj_expr {e : Expr} {f : EF} (h : PE X e (tE X.K f)) (hs : swapsWith e none pos.line X.env = pure false := by rfl) : PS X (.Expr e pos) (tS X.K (sDrop f)) := PS.to (ps_expr h hs) fun D σ H ⟨φ, ρ, μ, rs, k⟩ => by
  unfold sDrop at k
  cases e1 : f ρ μ with
  | none => rw [e1] at k; exact k.elim
  | some r =>
    rw [e1] at k
    exact ⟨φ, ρ, μ, r.1, r.2, rs, e1, fun φ1 v1 H1 g1 c1 r1 => k φ1 σ H1 g1 (rs.step g1 c1)⟩
theorem tS_asg {K : PySem.W.Frag} {f : EF} {t : TF} {vs : List Nat} : ∀ D σ H, tS K (sAsg f t) D σ H → tAsg (tE K f) (tG K t vs) D σ H := fun D σ H ⟨φ, ρ, μ, rs, k⟩ => by
  unfold sAsg at k
  cases e1 : f ρ μ with
  | none => rw [e1] at k; exact k.elim
  | some r =>
    obtain ⟨w, μ1⟩ := r
    rw [e1] at k
    simp only at k
    cases e2 : t w ρ with
    | none => rw [e2] at k; exact k.elim
    | some ρ1 =>
      rw [e2] at k
      refine ⟨φ, ρ, μ, w, μ1, rs, e1, fun φ1 v1 H1 g1 c1 r1 => ?_⟩
      exact ⟨φ1, ρ, μ1, w, ρ1, rs.step g1 c1, r1, e2, fun σ2 r2 _ => k φ1 σ2 H1 g1 r2⟩
theorem sj_asg {tg e : Expr} {f : EF} {t : TF} {vs : List Nat} (he : PE X e (tE X.K f)) (hg : PG X tg (tG X.K t vs)) (hs : swapsWithSole [tg] e pos.line X.env = pure false := by rfl) (hw : swappedStores [tg] e X.env = pure none := by rfl) (h1 : (assignEach [tg] X.env).map (·.2) = [assign tg X.env] := by rfl) :
    PS X (.Assign [tg] e pos) (tS X.K (sAsg f t)) := PS.to (ps_asg he hg hs hw h1) tS_asg
theorem sj_set {i : Nat} {x : Str} {e : Expr} {f : EF} {pos' : Pos} (hN : X.N.Nodup) (he : PE X e (tE X.K f)) (hi : X.N[i]? = some x := by rfl) (hx : Loc X.env.scope x := by first | exact Or.inl rfl | exact Or.inr rfl) (hs : swapsWith e (some (.Name x pos')) pos.line X.env = pure false := by rfl)
    (hf : X.fn x = true ∨ X.env.scope.names.lookup x = some .local := by first | exact .inl rfl | exact .inr rfl) : PS X (.Assign [.Name x pos'] e pos) (tS X.K (sAsg f (tNm i))) := PS.to (ps_set hN hi hx he hs hf) fun D σ H q => by
  obtain ⟨φ, ρ, μ, w, μ1, rs, e1, k⟩ := tS_asg (vs := [i]) D σ H q
  refine ⟨φ, ρ, μ, w, μ1, rs, e1, fun φ1 v1 H1 g1 c1 r1 => ?_⟩
  obtain ⟨φ2, ρ2, μ2, w2, ρ3, rs2, rv2, e2, k2⟩ := k φ1 v1 H1 g1 c1 r1
  cases e2
  exact k2 _ (rs2.put rv2) fun us hu => wipe_put (hu i (by simp))
theorem sj_par {i j : Nat} {x y : Str} {a b : Expr} {f : AF} {px py pt : Pos} {kt k2 pt2} (hc : X.calm = true) (hN : X.N.Nodup) (hij : i ≠ j) (ha : PA X [a, b] (tA X.K f)) (hi : X.N[i]? = some x := by rfl) (hj : X.N[j]? = some y := by rfl)
    (hx : X.env.scope.names.lookup x = some .local := by rfl) (hy : X.env.scope.names.lookup y = some .local := by rfl)
    (hw : swappedStores [.Tuple [.Name x px, .Name y py] kt pt] (.Tuple [a, b] k2 pt2) X.env = pure (some [x, y]) := by rfl)
    (hs : swapsWithSole [.Tuple [.Name x px, .Name y py] kt pt] (.Tuple [a, b] k2 pt2) pos.line X.env = pure false := by rfl) :
    PS X (.Assign [.Tuple [.Name x px, .Name y py] kt pt] (.Tuple [a, b] k2 pt2) pos) (tS X.K (sPar i j f)) := PS.to (ps_par hc hN hi hj hij hx hy ha hw hs) fun D σ H ⟨φ, ρ, μ, rs, k⟩ => by
  unfold sPar at k
  split at k
  · rename_i v w μ1 e1
    refine ⟨φ, ρ, μ, _, μ1, rs, e1, fun φ1 vs H1 g1 c1 r1 => ?_⟩
    obtain ⟨u1, r, e2, h1, u2, r', e3, h2, e4⟩ := r1
    subst e2 e3
    have e5 : r' = [] := e4
    subst e5
    exact ⟨u1, u2, rfl, k φ1 _ H1 g1 (((rs.step g1 c1).put h1).put h2)⟩
  · exact k.elim
theorem sj_if {c : Expr} {a b : List Stmt} {t : BF} {g h : SF} (hc : PT X c (tT X.K t)) (ha : PSs X a (tS X.K g)) (hb : PSs X b (tS X.K h)) : PS X (.If c a b pos) (tS X.K (sIf t g h)) := PS.to (ps_if hc ha hb) fun D σ H ⟨φ, ρ, μ, rs, k⟩ => by
  unfold sIf at k
  cases e1 : t ρ μ with
  | none => rw [e1] at k; exact k.elim
  | some r =>
    obtain ⟨d, μ1⟩ := r
    rw [e1] at k
    refine ⟨φ, ρ, μ, d, μ1, rs, e1, fun φ1 H1 g1 c1 => ?_⟩
    cases d with
    | true =>
      refine L2.iteT ?_
      exact ⟨φ1, ρ, μ1, rs.step g1 c1, SPost.grow g1 k⟩
    | false =>
      refine L2.iteF ?_
      exact ⟨φ1, ρ, μ1, rs.step g1 c1, SPost.grow g1 k⟩
end
end VL
end
section
set_option Elab.async false
set_option linter.all false
set_option maxRecDepth 100000
namespace VL
open PySem PySem.Spec PyProof.Rows L2
variable [LawTabs]
section
variable {K : PySem.W.Frag} {φ φ' : Ph} {H H' : Hp} {μ : Mu}
/-- the changed list of number n is written -/
theorem cell_write (c : Cells K φ H μ) {n : Nat} {a : Addr} {ds : List PyData} {xs : List V} (ha : φ.2[n]? = some a) (hs : DaAll K φ.av H ds xs) : Grow φ φ H (upd H a (.lst xs)) ∧ Cells K φ (upd H a (.lst xs)) (μ.set n ds) := by
  have hn : n < μ.length := by rw [← c.len]; exact (List.getElem?_eq_some_iff.mp ha).1
  obtain ⟨ys, hy, _⟩ := c.at_ n a μ[n] ha (by simp [hn])
  have g : Grow φ φ H (upd H a (.lst xs)) := by
    refine ⟨⟨[], by simp, by simp⟩, ⟨[], by simp, by simp⟩, fun b o h hb _ => ?_, fun b h => ?_⟩
    · by_cases e : b = a
      · subst e
        rw [hy] at h; cases h
        exact absurd rfl (hb (List.mem_of_getElem? ha) ys)
      · rw [upd_ne e]; exact h
    · by_cases e : b = a
      · subst e; rw [upd_same] at h; cases h
      · rw [upd_ne e] at h; exact h
  refine ⟨g, c.nd, by simp [c.len], fun m b es h1 h2 => ?_, fun b hb z => c.tr b hb (g.live b z), tabs_wr c.tb hy⟩
  by_cases e : m = n
  · subst e
    rw [ha] at h1; cases h1
    rw [List.getElem?_set_self hn] at h2; cases h2
    exact ⟨xs, upd_same, DaAll.step g _ _ hs⟩
  · rw [List.getElem?_set_ne (Ne.symm e)] at h2
    obtain ⟨zs, h3, h4⟩ := c.at_ m b es h1 h2
    have nb : b ≠ a := fun z => by
      subst z
      have h5 := List.getElem?_eq_some_iff.mp h1
      have h6 := List.getElem?_eq_some_iff.mp ha
      exact e ((List.getElem_inj c.nd).mp (h5.2.trans h6.2.symm))
    exact ⟨zs, by rw [upd_ne nb]; exact h3, DaAll.step g _ _ h4⟩
end
/-! ### o[i] = e of a changed list -/
@[simp] def sSubS (fe fo fi : EF) (ρ : Rho) (μ : Mu) : Option SR := match fe ρ μ with
  | some (.d p, μ1) => (match fo ρ μ1 with
    | some (.loc n, μ2) => (match fi ρ μ2 with
      | some (.d (.int k), μ3) => (match μ3[n]? with
        | some ds => (ixN ds.length k).map fun j => .nx ρ (μ3.set n (ds.set j p))
        | none => none)
      | _ => none)
    | _ => none)
  | _ => none
section
variable {X : Cx} {pos : Pos}
theorem sj_sub {o i e : Expr} {fe fo fi : EF} {p2 : Pos} (he : PE X e (tE X.K fe)) (ho : PE X o (tE X.K fo)) (hi : PE X i (tE X.K fi)) (ha : ∀ v, assign (.Subscript o i p2) X.env v = (do
      let ov ← holding [v] (eval o X.env)
      let iv ← holding [v, ov] (eval i X.env)
      standAt p2
      holding [v, ov, iv] (setItem ov iv v)
      release [v, ov, iv] []) := by intro _; rfl) (hs : swapsWithSole [.Subscript o i p2] e pos.line X.env = pure false := by rfl) (hw : swappedStores [.Subscript o i p2] e X.env = pure none := by rfl) (h1 : (assignEach [.Subscript o i p2] X.env).map (·.2) = [assign (.Subscript o i p2) X.env] := by rfl) :
    PS X (.Assign [.Subscript o i p2] e pos) (tS X.K (sSubS fe fo fi)) := PS.to (ps_asg he (pg_sub ho hi set_list ha) hs hw h1) fun D σ H ⟨φ, ρ, μ, rs, k⟩ => by
  unfold sSubS at k
  split at k
  · rename_i p μ1 e1
    refine ⟨φ, ρ, μ, _, μ1, rs, e1, fun φ1 v1 H1 g1 c1 r1 => ?_⟩
    have rs1 := rs.step g1 c1
    split at k
    · rename_i n μ2 e2
      refine ⟨φ1, ρ, μ1, _, μ2, rs1, e2, fun φ2 v2 H2 g2 c2 r2 => ?_⟩
      have rs2 := rs1.step g2 c2
      split at k
      · rename_i kk μ3 e3
        refine ⟨φ2, ρ, μ2, _, μ3, rs2, e3, fun φ3 v3 H3 g3 c3 r3 => ?_⟩
        split at k
        · rename_i ds e4
          cases e5 : ixN ds.length kk with
          | none => rw [e5] at k; exact k.elim
          | some j =>
            rw [e5] at k
            obtain ⟨a, h1, h2⟩ := RV.step g3.w _ _ r2
            obtain ⟨xs, h3, h4⟩ := c3.at_ n a ds h1 e4
            have hp := Da.step (g2.trans g3).w p v1 r1
            refine ⟨a, xs, kk, j, h2, r3, h3, by rw [← h4.len]; exact e5, ?_⟩
            obtain ⟨g4, c4⟩ := cell_write c3 h1 (DaAll.set hp j h4)
            exact k φ3 σ _ (((g1.trans g2).trans g3).trans g4) ((rs2.step g3 c3).step g4 c4)
        · exact k.elim
      · exact k.elim
    · exact k.elim
  · exact k.elim
/-! ### x.append(e) -/
@[simp] def sApp (fo fe : EF) (ρ : Rho) (μ : Mu) : Option SR := match fo ρ μ with
  | some (.loc n, μ1) => (match fe ρ μ1 with
    | some (.d p, μ2) => (match μ2[n]? with
      | some ds => if ds.length < 1000000 then some (.nx ρ (μ2.set n (ds ++ [p]))) else none
      | none => none)
    | _ => none)
  | _ => none
theorem sj_app {o e : Expr} {fo fe : EF} {apos cpos : Pos} (ho : PE X o (tE X.K fo)) (he : PE X e (tE X.K fe)) (hbase : attributeBase o "append" X.env (eval o X.env) = eval o X.env := by rfl)
    (hfew : ((backTo cpos (starEach [e] X.env)).all (fun x => !x.1) && (backToKw cpos (keywordEach [] X.env)).all (fun x => x.1.isSome) && decide (([e] : List Expr).length + ([] : List Keyword).length + (if ([] : List Keyword).isEmpty then 0 else 1) < 30)) = true := by rfl)
    (hline : (apos.endLine == cpos.line) = true := by rfl) (hs : starEach [e] X.env = (false, eval e X.env) :: starEach [] X.env := by rfl) (hplain : (backTo cpos (starEach [] X.env)).any (·.1) = false := by rfl)
    (hsw : swapsWith (.Call (.Attribute o "append" apos) [e] [] cpos) none pos.line X.env = pure false := by rfl) : PS X (.Expr (.Call (.Attribute o "append" apos) [e] [] cpos) pos) (tS X.K (sApp fo fe)) :=
  PS.to (ps_expr (pe_bm PySem.F.plainAttrs_list PySem.F.slot_list_append PySem.F.type_list_append mt_append ho (aj_cons he aj_nil hs) hbase hfew hline hs hplain) hsw) fun D σ H ⟨φ, ρ, μ, rs, k⟩ => by
  unfold sApp at k
  split at k
  · rename_i n μ1 e1
    refine ⟨φ, ρ, μ, _, μ1, rs, e1, fun φ1 v1 H1 g1 c1 r1 => ?_⟩
    have rs1 := rs.step g1 c1
    obtain ⟨a, h1, h2⟩ := id r1
    obtain ⟨xs, hx⟩ := c1.mem (List.mem_of_getElem? h1)
    subst h2
    refine ⟨.inl ⟨rfl, xs, SqL.of hx⟩, ?_⟩
    split at k
    · rename_i p μ2 e2
      refine ⟨φ1, ρ, μ1, [.d p], μ2, rs1, by unfold aCons aNil; rw [e2]; rfl, fun φ2 vs H2 g2 c2 r2 => ?_⟩
      obtain ⟨v, r, ev, h3, h4⟩ := r2
      have h5 : r = [] := h4
      subst ev h5
      split at k
      · rename_i ds e4
        split at k
        · rename_i hl
          obtain ⟨b, h6, h7⟩ := RV.step g2.w _ _ r1
          cases h7
          obtain ⟨ys, h8, h9⟩ := c2.at_ n a ds h6 e4
          refine ⟨a, ys, v, rfl, rfl, h8, by rw [← h9.len]; exact size_lt (Nat.le_of_lt hl), ?_⟩
          obtain ⟨g4, c4⟩ := cell_write c2 h6 (DaAll.append h9 (show DaAll X.K φ2.av H2 [p] [v] from ⟨v, [], rfl, h3, rfl⟩))
          exact k φ2 σ _ ((g1.trans g2).trans g4) ((rs1.step g2 c2).step g4 c4)
        · exact k.elim
      · exact k.elim
    · exact k.elim
  · exact k.elim
/-! ### x += e -/
@[simp] def sAug (i : Nat) (g : Int → Int → Int) (f : EF) (ρ : Rho) (μ : Mu) : Option SR := match ρ[i]? with
  | some (some (.d (.int a))) => (match f ρ μ with
    | some (.d (.int b), μ1) => some (.nx (ρ.set i (some (.d (.int (g a b))))) μ1)
    | _ => none)
  | _ => none
theorem sj_aug {op : Operator} {g : Int → Int → Int} {i : Nat} {x : Str} {e : Expr} {f : EF} {pos' : Pos} (ho : PIp X op (ipI g)) (hN : X.N.Nodup) (he : PE X e (tE X.K f)) (hi : X.N[i]? = some x := by rfl) (hx : Loc X.env.scope x := by first | exact Or.inl rfl | exact Or.inr rfl)
    (hf : X.fn x = true ∨ X.env.scope.names.lookup x = some .local := by first | exact .inl rfl | exact .inr rfl) : PS X (.AugAssign (.Name x pos') op e pos) (tS X.K (sAug i g f)) := PS.to (ps_aug hN hi hx he ho hf) fun D σ H ⟨φ, ρ, μ, rs, k⟩ => by
  unfold sAug at k
  split at k
  · rename_i a ea
    split at k
    · rename_i b μ1 e1
      obtain ⟨v, h1, h2⟩ := rs.at_ i _ ea
      refine ⟨v, h1, φ, ρ, μ, _, μ1, rs, e1, fun φ1 v1 H1 g1 c1 r1 => ?_⟩
      exact ⟨a, b, h2, r1, k φ1 _ H1 g1 ((rs.step g1 c1).put rfl)⟩
    · exact k.elim
  · exact k.elim
/-! ### new changed lists -/
theorem new_cell {K : PySem.W.Frag} {φ : Ph} {H : Hp} {μ : Mu} {ps : List PyData} {vs : List V} {Q : VK} (c : Cells K φ H μ) (hs : DaAll K φ.av H ps vs) (k : Post K φ H (μ ++ [ps]) (.loc μ.length) Q) : ∀ p, H p = none → Q (.ref p) (upd H p (.lst vs)) := fun p hp =>
  k (φ.1, φ.2 ++ [p]) _ _ (Grow.cell hp) (c.cell hp hs) ⟨p, by
    show (φ.2 ++ [p])[μ.length]? = some p
    rw [← c.len, List.getElem?_append_right (Nat.le_refl _), Nat.sub_self]; rfl, rfl⟩
@[simp] def eLstC (f : AF) (ρ : Rho) (μ : Mu) : Option (Vw × Mu) := match f ρ μ with
  | some (ws, μ1) => (match allD ws with
    | some ps => if ps.length ≤ 1000000 then some (.loc μ1.length, μ1 ++ [ps]) else none
    | none => none)
  | none => none
theorem ej_lstC {es : List Expr} {f : AF} (h : PA X es (tA X.K f)) : PE X (.List es pos) (tE X.K (eLstC f)) := PE.to (pe_lst h) fun σ H Q ⟨φ, ρ, μ, w, μ', rs, e, k⟩ => by
  unfold eLstC at e
  split at e
  · rename_i ws μ1 e1
    split at e
    · rename_i ps e2
      split at e
      · rename_i hl
        cases e
        refine ⟨φ, ρ, μ, ws, _, rs, e1, fun φ1 vs H1 g1 c1 r1 => ?_⟩
        have hd := allD_da e2 r1
        refine ⟨by rw [← hd.len]; exact size_ok hl, ?_⟩
        exact new_cell c1 hd fun φ2 v2 H2 g2 c2 r2 => k φ2 v2 H2 (g1.trans g2) c2 r2
      · cases e
    · cases e
  · cases e
end
/-! ### what is walked -/
abbrev IF := Rho → Mu → Option (List PyData × Option Nat × Mu)
def Wk (K : PySem.W.Frag) (φ : Ph) (H : Hp) (ds : List PyData) (src : Option Nat) (J : It) : Prop := ∀ (φ' : Ph) (H' : Hp) (μ' : Mu), GrowW φ φ' H H' → Cells K φ' H' μ' → (∀ n, src = some n → μ'[n]? = some ds) → ∀ i : Nat,
  (∀ d, ds[i]? = some d → J.go i H' ∧ ∀ x H'', J.yld i H' x H'' → Grow φ' φ' H' H'' ∧ Cells K φ' H'' μ' ∧ Da K φ'.av H'' d x) ∧ (ds.length ≤ i → J.stop i H')
def tI (K : PySem.W.Frag) (fi : IF) : TI := fun σ H R => ∃ φ ρ μ ds src μ', RS K φ σ H ρ μ ∧ fi ρ μ = some (ds, src, μ') ∧ ∀ φ' J H', Grow φ φ' H H' → Cells K φ' H' μ' → Wk K φ' H' ds src J → R J H'
theorem PI.to {X : Cx} {tg it : Expr} {t u : TI} (h : PI X tg it t) (k : ∀ σ H R, u σ H R → t σ H R) : PI X tg it u := ⟨fun pins s σ H R I q => h.run pins s σ H R I (k σ H R q)⟩
@[simp] def iSeq (f : EF) (ρ : Rho) (μ : Mu) : Option (List PyData × Option Nat × Mu) := match f ρ μ with
  | some (.d (.tuple ds), μ1) => some (ds, none, μ1)
  | some (.d (.list ds), μ1) => some (ds, none, μ1)
  | some (.loc n, μ1) => (μ1[n]?).map fun ds => (ds, some n, μ1)
  | some (.kl ns, μ1) => some (ns.map PyData.int, none, μ1)
  | _ => none
theorem wk_tup {K : PySem.W.Frag} {φ : Ph} {H : Hp} {a : Addr} {ds : List PyData} {xs : List V} (h : SqT K H a xs) (hd : DaAll K φ.av H ds xs) : Wk K φ H ds none (Itt K a) := fun φ' H' μ' g c _ i => by
  have h' := g.sqT h
  have hd' := DaAll.step g ds xs hd
  refine ⟨fun d e => ?_, fun hl => ⟨xs, h', by rw [← hd'.len]; exact hl⟩⟩
  obtain ⟨v, e1, e2⟩ := hd'.get e
  refine ⟨⟨xs, v, h', e1⟩, fun x H'' hy => ?_⟩
  obtain ⟨rfl, hy⟩ := hy
  have := hy xs h'
  rw [e1] at this; cases this
  exact ⟨.refl _ _, c, e2⟩
theorem wk_lst {K : PySem.W.Frag} {φ : Ph} {H : Hp} {a : Addr} {ds : List PyData} {src : Option Nat} (h : ∀ φ' H' μ', GrowW φ φ' H H' → Cells K φ' H' μ' → (∀ n, src = some n → μ'[n]? = some ds) → ∃ xs, SqL K H' a xs ∧ DaAll K φ'.av H' ds xs) : Wk K φ H ds src (Itl K a) := fun φ' H' μ' g c hs i => by
  obtain ⟨xs, h', hd'⟩ := h φ' H' μ' g c hs
  refine ⟨fun d e => ?_, fun hl => ⟨xs, h', by rw [← hd'.len]; exact hl⟩⟩
  obtain ⟨v, e1, e2⟩ := hd'.get e
  refine ⟨⟨xs, v, h', e1⟩, fun x H'' hy => ?_⟩
  obtain ⟨rfl, hy⟩ := hy
  have := hy xs h'
  rw [e1] at this; cases this
  exact ⟨.refl _ _, c, e2⟩
theorem ij_seq {X : Cx} {tg l : Expr} {f : EF} (h : PE X l (tE X.K f)) : PI X tg l (tI X.K (iSeq f)) := ⟨fun pins s σ H R I q => by
  obtain ⟨φ, ρ, μ, ds, src, μ', rs, e, k⟩ := q
  unfold iSeq at e
  split at e
  · rename_i es μ1 e1
    cases e
    refine (pi_tup h).run pins s σ H R I ⟨φ, ρ, μ, _, _, rs, e1, fun φ1 v H1 g1 c1 r1 => ?_⟩
    obtain ⟨a, xs, e2, h1, h2⟩ := r1
    exact ⟨a, e2, ⟨xs, h1⟩, k φ1 _ H1 g1 c1 (wk_tup h1 h2)⟩
  · rename_i es μ1 e1
    cases e
    refine (pi_list h).run pins s σ H R I ⟨φ, ρ, μ, _, _, rs, e1, fun φ1 v H1 g1 c1 r1 => ?_⟩
    obtain ⟨a, xs, e2, hn, h1, h2⟩ := id r1
    refine ⟨a, e2, ⟨xs, SqL.of h1⟩, k φ1 _ H1 g1 c1 (wk_lst fun φ' H' μ' g c _ => ?_)⟩
    obtain ⟨b, ys, e3, _, h3, h4⟩ := Da.step g (.list ds) v r1
    rw [e2] at e3; cases e3
    exact ⟨ys, SqL.of h3, h4⟩
  · rename_i n μ1 e1
    obtain ⟨es, e2, e3⟩ := Option.map_eq_some_iff.mp e
    cases e3
    refine (pi_list h).run pins s σ H R I ⟨φ, ρ, μ, _, _, rs, e1, fun φ1 v H1 g1 c1 r1 => ?_⟩
    obtain ⟨a, h1, h2⟩ := id r1
    obtain ⟨xs, h3, _⟩ := c1.at_ n a ds h1 e2
    refine ⟨a, h2, ⟨xs, SqL.of h3⟩, k φ1 _ H1 g1 c1 (wk_lst fun φ' H' μ2 g c hs => ?_)⟩
    obtain ⟨b, h4, h5⟩ := RV.step g _ _ r1
    rw [h2] at h5; cases h5
    obtain ⟨ys, h6, h7⟩ := c.at_ n a ds h4 (hs n rfl)
    exact ⟨ys, SqL.of h6, h7⟩
  · rename_i ns μ1 e1
    cases e
    refine (pi_list h).run pins s σ H R I ⟨φ, ρ, μ, _, _, rs, e1, fun φ1 v H1 g1 c1 r1 => ?_⟩
    obtain ⟨a, h1, h2⟩ := r1
    refine ⟨a, h1, ⟨_, h2.sq⟩, k φ1 _ H1 g1 c1 (wk_lst fun φ' H' μ' g c _ => ⟨_, (g.kl h2).sq, DaAll.ints ns⟩)⟩
  · cases e⟩
/-- lo, lo + 1, .. -/
def rngD (lo : Int) (n : Nat) : List PyData := (List.range n).map fun (i : Nat) => PyData.int (lo + (i : Int))
theorem rngD_get {lo : Int} {n i : Nat} {d : PyData} (e : (rngD lo n)[i]? = some d) : i < n ∧ d = .int (lo + (i : Int)) := by
  unfold rngD at e
  rw [List.getElem?_map] at e
  by_cases h : i < n
  · rw [List.getElem?_range h] at e
    cases e
    exact ⟨h, rfl⟩
  · rw [List.getElem?_eq_none (by simpa using h)] at e; cases e
theorem rngD_len {lo : Int} {n : Nat} : (rngD lo n).length = n := by simp [rngD]
theorem wk_rng {K : PySem.W.Frag} {φ : Ph} {H : Hp} {lo : Int} {n : Nat} : Wk K φ H (rngD lo n) none (Itr lo n) := fun φ' H' μ' g c _ i => by
  refine ⟨fun d e => ?_, fun hl => by rw [rngD_len] at hl; exact hl⟩
  obtain ⟨h1, rfl⟩ := rngD_get e
  refine ⟨h1, fun x H'' hy => ?_⟩
  obtain ⟨rfl, rfl⟩ := hy
  exact ⟨.refl _ _, c, rfl⟩
def rgOk (lo hi : Int) : Prop := -(2 ^ 62) ≤ lo ∧ lo < 2 ^ 62 ∧ -(2 ^ 62) ≤ hi ∧ hi < 2 ^ 62
theorem rgOk_of {lo hi : Int} (h1 : -1000000000000 ≤ lo) (h2 : lo ≤ 1000000000000) (h3 : -1000000000000 ≤ hi) (h4 : hi ≤ 1000000000000) : rgOk lo hi := ⟨by omega, by omega, by omega, by omega⟩
theorem rgOk_0 {n : Nat} (h : n ≤ 1000000) : rgOk 0 n := ⟨by omega, by omega, by omega, by omega⟩
open Classical in
@[simp] noncomputable def iRg1 (f : EF) (ρ : Rho) (μ : Mu) : Option (List PyData × Option Nat × Mu) := match f ρ μ with
  | some (.d (.int j), μ1) => if rgOk 0 j then some (rngD 0 j.toNat, none, μ1) else none
  | _ => none
open Classical in
@[simp] noncomputable def iRg2 (f g : EF) (ρ : Rho) (μ : Mu) : Option (List PyData × Option Nat × Mu) := match f ρ μ with
  | some (.d (.int i), μ1) => (match g ρ μ1 with
    | some (.d (.int j), μ2) => if rgOk i j then some (rngD i (j - i).toNat, none, μ2) else none
    | _ => none)
  | _ => none
theorem ij_rg1 {X : Cx} {tg a : Expr} {f : EF} {p pos : Pos} (hm : X.mg "range" = none) (ha : PE X a (tE X.K f)) (hg : Gl X "range" := by rfl) (hs : starEach [a] X.env = [(false, eval a X.env)] := by rfl) : PI X tg (.Call (.Name "range" p) [a] [] pos) (tI X.K (iRg1 f)) :=
  PI.to (pi_range1 hg hm (aj_cons ha aj_nil hs) hs) fun σ H R ⟨φ, ρ, μ, ds, src, μ', rs, e, k⟩ => by
  unfold iRg1 at e
  split at e
  · rename_i j μ1 e1
    split at e
    · rename_i hj
      cases e
      refine ⟨φ, ρ, μ, [.d (.int j)], _, rs, by unfold aCons aNil; rw [e1]; rfl, fun φ1 vs H1 g1 c1 r1 => ?_⟩
      obtain ⟨v, r, ev, h3, h4⟩ := r1
      have h5 : r = [] := h4
      have h6 : v = .int j := h3
      subst ev h5 h6
      exact ⟨j, rfl, hj.2.2.1, hj.2.2.2, k φ1 _ H1 g1 c1 wk_rng⟩
    · cases e
  · cases e
theorem ij_rg2 {X : Cx} {tg a b : Expr} {f g : EF} {p pos : Pos} (hm : X.mg "range" = none) (ha : PE X a (tE X.K f)) (hb : PE X b (tE X.K g)) (hg : Gl X "range" := by rfl) (hs : starEach [a, b] X.env = [(false, eval a X.env), (false, eval b X.env)] := by rfl)
    (hs2 : starEach [b] X.env = [(false, eval b X.env)] := by rfl) : PI X tg (.Call (.Name "range" p) [a, b] [] pos) (tI X.K (iRg2 f g)) :=
  PI.to (pi_range2 hg hm (aj_cons ha (aj_cons hb aj_nil hs2) (by rw [hs, hs2])) hs hs2) fun σ H R ⟨φ, ρ, μ, ds, src, μ', rs, e, k⟩ => by
  unfold iRg2 at e
  split at e
  · rename_i i μ1 e1
    split at e
    · rename_i j μ2 e2
      split at e
      · rename_i hj
        cases e
        refine ⟨φ, ρ, μ, [.d (.int i), .d (.int j)], _, rs, by simp only [aCons, aNil, e1, e2]; rfl, fun φ1 vs H1 g1 c1 r1 => ?_⟩
        obtain ⟨v, r, ev, h3, v2, r2, ev2, h4, h5⟩ := r1
        have h6 : r2 = [] := h5
        have h7 : v = .int i := h3
        have h8 : v2 = .int j := h4
        subst ev ev2 h6 h7 h8
        exact ⟨i, j, rfl, hj, k φ1 _ H1 g1 c1 wk_rng⟩
      · cases e
    · cases e
  · cases e
/-! ### for -/
def srcOk (src : Option Nat) (all : List PyData) (μ : Mu) : Prop := ∀ n, src = some n → μ[n]? = some all
open Classical in
noncomputable def forM (t : TF) (body : SF) (src : Option Nat) (all : List PyData) : List PyData → Rho → Mu → Option SR
  | [], ρ, μ => if srcOk src all μ then some (.nx ρ μ) else none
  | d :: ds, ρ, μ => if srcOk src all μ then (match t (.d d) ρ with
    | none => none
    | some ρ1 => match body ρ1 μ with
      | some (.nx ρ2 μ2) => forM t body src all ds ρ2 μ2
      | some (.ct ρ2 μ2) => forM t body src all ds ρ2 μ2
      | some (.bk ρ2 μ2) => some (.nx ρ2 μ2)
      | some (.rt w μ2) => some (.rt w μ2)
      | none => none)
    else none
@[simp] noncomputable def sFor (fi : IF) (t : TF) (body : SF) (ρ : Rho) (μ : Mu) : Option SR := match fi ρ μ with
  | some (ds, src, μ1) => forM t body src ds ds ρ μ1
  | none => none
theorem sj_for {X : Cx} {tg iter : Expr} {body : List Stmt} {fi : IF} {t : TF} {vs : List Nat} {g : SF} {pos : Pos} (hp : PassesOwn (model X.prog X.w) X.A X.env X.xe) (hc : X.calm = true) (hi : PI X tg iter (tI X.K fi)) (hg : PG X tg (tG X.K t vs)) (hb : PSs X body (tS X.K g))
    (hs : ∀ x, foldedSetIterable iter X.env x = pure x := by intro _; rfl) : PS X (.For tg iter body [] pos) (tS X.K (sFor fi t g)) := PS.to (ps_for hp hc hi hg hb hs) fun D σ H ⟨φ, ρ, μ, rs, k⟩ => by
  unfold sFor at k
  split at k
  · rename_i ds src μ1 e1
    refine ⟨φ, ρ, μ, ds, src, μ1, rs, e1, fun φ1 J H1 g1 c1 wk => ?_⟩
    refine ⟨fun i m σ' H' => m = ds.length - i ∧ ∃ φ2 ρ2 μ2, Grow φ1 φ2 H1 H' ∧ RS X.K φ2 σ' H' ρ2 μ2 ∧ SPost X.K φ2 H' D (forM t g src ds (ds.drop i) ρ2 μ2), ⟨_, rfl, φ1, ρ, μ1, .refl _ _, rs.step g1 c1, SPost.grow g1 k⟩, ?_⟩
    rintro i m σ2 H2 ⟨rfl, φ2, ρ2, μ2, g2, rs2, k2⟩
    cases hdi : ds.drop i with
    | nil =>
      rw [hdi] at k2
      unfold forM at k2
      split at k2
      · rename_i hsrc
        have hl : ds.length ≤ i := List.drop_eq_nil_iff.mp hdi
        exact .inl ⟨(wk φ2 H2 μ2 g2 rs2.c hsrc i).2 hl, k2 φ2 σ2 H2 (.refl _ _) rs2⟩
      · exact k2.elim
    | cons d r =>
      rw [hdi] at k2
      have hil : i < ds.length := by
        by_cases z : i < ds.length
        · exact z
        · rw [List.drop_eq_nil_iff.mpr (by omega)] at hdi; cases hdi
      have hdg : ds[i]? = some d := by
        have := List.getElem?_drop (xs := ds) (i := i) (j := 0)
        rw [hdi] at this
        simpa using this.symm
      have hdr : ds.drop (i + 1) = r := by
        have : (ds.drop i).drop 1 = ds.drop (i + 1) := by rw [List.drop_drop]
        rw [← this, hdi]; rfl
      unfold forM at k2
      split at k2
      · rename_i hsrc
        obtain ⟨go, hy⟩ := (wk φ2 H2 μ2 g2 rs2.c hsrc i).1 d hdg
        refine .inr ⟨go, fun σ' H' => ∃ φ3 ρ3 μ3, Grow φ1 φ3 H1 H' ∧ RS X.K φ3 σ' H' ρ3 μ3 ∧ SPost X.K φ3 H' D (forM t g src ds (ds.drop (i + 1)) ρ3 μ3), fun σ' H' hN => ⟨ds.length - (i + 1), by omega, rfl, hN⟩, fun x H3 hyl => ?_⟩
        obtain ⟨g3, c3, hx⟩ := hy x H3 hyl
        have rs3 := rs2.step g3 c3
        split at k2
        · exact k2.elim
        · rename_i ρ3 e3
          refine ⟨φ2, ρ2, μ2, .d d, ρ3, rs3, hx, e3, fun σ4 rs4 _ => ⟨φ2, ρ3, μ2, rs4, ?_⟩⟩
          rw [hdr]
          have k3 := SPost.grow g3 k2
          cases eb : g ρ3 μ2 with
          | none => rw [eb] at k3; exact k3
          | some z =>
            rw [eb] at k3
            cases z with
            | nx ρ5 μ5 => exact fun φ5 σ5 H5 g5 r5 => ⟨φ5, ρ5, μ5, (g2.trans g3).trans g5, r5, SPost.grow g5 k3⟩
            | ct ρ5 μ5 => exact fun φ5 σ5 H5 g5 r5 => ⟨φ5, ρ5, μ5, (g2.trans g3).trans g5, r5, SPost.grow g5 k3⟩
            | bk ρ5 μ5 => exact k3
            | rt w μ5 => exact k3
      · exact k2.elim
  · exact k.elim
/-! ### while -/
def whileM (t : BF) (body : SF) : Nat → Rho → Mu → Option SR
  | 0, _, _ => none
  | n + 1, ρ, μ => match t ρ μ with
    | none => none
    | some (false, μ1) => some (.nx ρ μ1)
    | some (true, μ1) => match body ρ μ1 with
      | some (.nx ρ2 μ2) => whileM t body n ρ2 μ2
      | some (.ct ρ2 μ2) => whileM t body n ρ2 μ2
      | some (.bk ρ2 μ2) => some (.nx ρ2 μ2)
      | some (.rt w μ2) => some (.rt w μ2)
      | none => none
/-- enough turns -/
def sWhile (t : BF) (body : SF) (n : Nat) : SF := whileM t body n
theorem sj_while {X : Cx} {c : Expr} {body : List Stmt} {t : BF} {g : SF} {pos : Pos} (n : Nat) (hp : PassesOwn (model X.prog X.w) X.A X.env X.xe) (hc : PT X c (tT X.K t)) (hb : PSs X body (tS X.K g)) : PS X (.While c body [] pos) (tS X.K (sWhile t g n)) := PS.to (ps_while hp hc hb) fun D σ H ⟨φ, ρ, μ, rs, k⟩ => by
  refine ⟨fun m σ' H' => ∃ φ2 ρ2 μ2, RS X.K φ2 σ' H' ρ2 μ2 ∧ SPost X.K φ2 H' D (whileM t g m ρ2 μ2), ⟨n, φ, ρ, μ, rs, k⟩, ?_⟩
  rintro m σ2 H2 ⟨φ2, ρ2, μ2, rs2, k2⟩
  cases m with
  | zero => exact k2.elim
  | succ m =>
    unfold whileM at k2
    cases et : t ρ2 μ2 with
    | none => rw [et] at k2; exact k2.elim
    | some r =>
      obtain ⟨b, μ3⟩ := r
      rw [et] at k2
      refine ⟨φ2, ρ2, μ2, b, μ3, rs2, et, fun φ3 H3 g3 c3 => ?_⟩
      have rs3 := rs2.step g3 c3
      have k3 := SPost.grow g3 k2
      cases b with
      | false => exact L2.iteF (k3 φ3 σ2 H3 (.refl _ _) rs3)
      | true =>
        refine L2.iteT ⟨fun σ' H' => ∃ φ4 ρ4 μ4, RS X.K φ4 σ' H' ρ4 μ4 ∧ SPost X.K φ4 H' D (whileM t g m ρ4 μ4), fun σ' H' hN => ⟨m, by omega, hN⟩, φ3, ρ2, μ3, rs3, ?_⟩
        simp only at k3
        cases eb : g ρ2 μ3 with
        | none => rw [eb] at k3; exact k3
        | some z =>
          rw [eb] at k3
          cases z with
          | nx ρ5 μ5 => exact fun φ5 σ5 H5 g5 r5 => ⟨φ5, ρ5, μ5, r5, SPost.grow g5 k3⟩
          | ct ρ5 μ5 => exact fun φ5 σ5 H5 g5 r5 => ⟨φ5, ρ5, μ5, r5, SPost.grow g5 k3⟩
          | bk ρ5 μ5 => exact k3
          | rt w μ5 => exact k3
end VL
end
section
set_option Elab.async false
set_option linter.all false
set_option maxRecDepth 100000
namespace VL
open PySem PySem.Spec PyProof.Rows L2
variable [LawTabs]
/-! ### comprehensions -/
def wipeR (ρ : Rho) : List Nat → Rho
  | [] => ρ
  | v :: vs => (wipeR ρ vs).set v none
theorem wipeR_len (ρ : Rho) : ∀ vs : List Nat, (wipeR ρ vs).length = ρ.length
  | [] => rfl
  | v :: vs => by unfold wipeR; rw [List.length_set, wipeR_len ρ vs]
theorem wipeR_some {ρ : Rho} {i : Nat} {x : Vw} : ∀ {vs : List Nat}, (wipeR ρ vs)[i]? = some (some x) → ρ[i]? = some (some x) ∧ i ∉ vs
  | [], h => ⟨h, by simp⟩
  | v :: vs, h => by
    unfold wipeR at h
    by_cases e : i = v
    · subst e
      by_cases hl : i < (wipeR ρ vs).length
      · rw [List.getElem?_set_self hl] at h; cases h
      · rw [List.getElem?_eq_none (by simpa using hl)] at h; cases h
    · rw [List.getElem?_set_ne (Ne.symm e)] at h
      obtain ⟨h1, h2⟩ := wipeR_some h
      exact ⟨h1, by simp [e, h2]⟩
theorem RS.wipe {K : PySem.W.Frag} {φ : Ph} {σ : L2.St} {H : Hp} {ρ : Rho} {μ : Mu} (r : RS K φ σ H ρ μ) (vs : List Nat) : RS K φ (L2.wipe σ vs) H (wipeR ρ vs) μ := by
  refine ⟨r.c, by rw [wipe_length, wipeR_len, r.len], fun i w h => ?_⟩
  obtain ⟨h1, h2⟩ := wipeR_some h
  obtain ⟨v, h3, h4⟩ := r.at_ i w h1
  exact ⟨v, by rw [wipe_out h2]; exact h3, h4⟩
@[simp] def bYes (_ : Rho) (μ : Mu) : Option (Bool × Mu) := some (true, μ)
theorem tsj_nil {X : Cx} : PTs X [] (tT X.K bYes) := ⟨fun pins s σ H Q I h => pts_nil.run pins s σ H Q I (by
  obtain ⟨φ, ρ, μ, b, μ', rs, e, k⟩ := h
  cases e
  exact k φ H (.refl _ _) rs.c)⟩
theorem tsj_one {X : Cx} {c : Expr} {f : BF} (h : PT X c (tT X.K f)) : PTs X [c] (tT X.K f) := pts_one h
open Classical in
noncomputable def lcM (t : TF) (tt : BF) (fe : EF) (src : Option Nat) (all : List PyData) : List PyData → Rho → Mu → Option (List PyData × Mu)
  | [], ρ, μ => if srcOk src all μ then some ([], μ) else none
  | d :: ds, ρ, μ => if srcOk src all μ then (match t (.d d) ρ with
    | none => none
    | some ρ1 => match tt ρ1 μ with
      | some (true, μ1) => (match fe ρ1 μ1 with
        | some (.d p, μ2) => (lcM t tt fe src all ds ρ μ2).map fun r => (p :: r.1, r.2)
        | _ => none)
      | some (false, μ1) => lcM t tt fe src all ds ρ μ1
      | none => none)
    else none
@[simp] noncomputable def eLcC (fi : IF) (t : TF) (tt : BF) (fe : EF) (vs : List Nat) (ρ : Rho) (μ : Mu) : Option (Vw × Mu) := match fi ρ μ with
  | some (ds, src, μ1) => (match lcM t tt fe src ds ds (wipeR ρ vs) μ1 with
    | some (ps, μ2) => if ps.length ≤ 1000000 then some (.loc μ2.length, μ2 ++ [ps]) else none
    | none => none)
  | none => none
@[simp] noncomputable def eLc (fi : IF) (t : TF) (tt : BF) (fe : EF) (vs : List Nat) (ρ : Rho) (μ : Mu) : Option (Vw × Mu) := match fi ρ μ with
  | some (ds, src, μ1) => (match lcM t tt fe src ds ds (wipeR ρ vs) μ1 with
    | some (ps, μ2) => if ps.length ≤ 1000000 then some (.d (.list ps), μ2) else none
    | none => none)
  | none => none
/-- what holds between two turns: D the list that is made -/
structure LcAt (K : PySem.W.Frag) (φ φ2 : Ph) (H H2 : Hp) (D : Addr) (μ2 : Mu) (acc : List PyData) : Prop where
  g : Grow φ φ2 H H2
  c : Cells K φ2 H2 μ2
  mem : D ∈ φ2.1
  nmem : D ∉ φ2.2
  at_ : ∃ xs, H2 D = some (.lst xs) ∧ DaAll K φ2.av H2 acc xs
section
variable {K : PySem.W.Frag} {φ φ2 φ3 : Ph} {H H2 H3 : Hp} {D : Addr} {μ μ2 μ3 : Mu} {acc : List PyData}
theorem LcAt.start (c : Cells K φ H μ) (hD : H D = none) : LcAt K φ (φ.1 ++ [D], φ.2) H (upd H D (.lst [])) D μ [] := by
  have g : Grow φ (φ.1 ++ [D], φ.2) H (upd H D (.lst [])) := by
    obtain ⟨_, p, e, l⟩ := Grow.laid (φ := φ) (o := .lst []) hD
    exact ⟨⟨[D], rfl, fun a ha => by rw [List.mem_singleton.mp ha]; exact hD⟩, p, e, l⟩
  have hn := c.notin hD
  refine ⟨g, ⟨c.nd, c.len, fun n a ds h1 h2 => ?_, fun a ha => ?_, tabs_laid c.tb hD⟩, by simp, fun z => hn (List.mem_append_right _ z), ⟨[], upd_same, rfl⟩⟩
  · obtain ⟨xs, h, hs⟩ := c.at_ n a ds h1 h2
    exact ⟨xs, by rw [upd_ne (ne_of_none h hD)]; exact h, DaAll.step g ds xs hs⟩
  · rcases List.mem_append.mp ha with ha | ha
    · intro z; exact c.tr a ha (g.live a z)
    · rw [List.mem_singleton.mp ha, upd_same]; simp
theorem LcAt.step (l : LcAt K φ φ2 H H2 D μ2 acc) (g : Grow φ2 φ3 H2 H3) (c : Cells K φ3 H3 μ3) : LcAt K φ φ3 H H3 D μ3 acc := by
  obtain ⟨xs, h, hs⟩ := l.at_
  refine ⟨l.g.trans g, c, ?_, g.out2 (by rw [h]; simp) l.nmem, ⟨xs, g.ext D _ h (fun z => absurd z l.nmem) (fun ps z => by cases z), DaAll.step g _ _ hs⟩⟩
  obtain ⟨χ, e, _⟩ := g.fst
  rw [e]; exact List.mem_append_left _ l.mem
theorem LcAt.add (l : LcAt K φ φ2 H H2 D μ2 acc) (hD : H D = none) {p : PyData} {y : V} (hp : Da K φ2.av H2 p y) : ∃ xs, H2 D = some (.lst xs) ∧ xs.length = acc.length ∧ LcAt K φ φ2 H (upd H2 D (.lst (xs ++ [y]))) D μ2 (acc ++ [p]) := by
  obtain ⟨xs, h, hs⟩ := l.at_
  have ha : D ∈ φ2.av := List.mem_append_left _ l.mem
  refine ⟨xs, h, hs.len.symm, ⟨⟨l.g.fst, l.g.pre, fun a o e hn nt => ?_, fun a z => ?_⟩, l.c.wr l.mem l.nmem h, l.mem, l.nmem, ⟨_, upd_same, DaAll.append (DaAll.wr ha h _ _ hs) (show DaAll K φ2.av _ [p] [y] from ⟨y, [], rfl, Da.wr ha h _ _ hp, rfl⟩)⟩⟩⟩
  · rw [upd_ne (ne_of_none e hD)]; exact l.g.ext a o e hn nt
  · by_cases e : a = D
    · rw [e]; exact hD
    · rw [upd_ne e] at z; exact l.g.live a z
theorem LcAt.endC (l : LcAt K φ φ2 H H2 D μ2 acc) (cH : Cells K φ H μ) (hD : H D = none) {Q : VK} (k : Post K φ H (μ2 ++ [acc]) (.loc μ2.length) Q) : Q (.ref D) H2 := by
  obtain ⟨xs, h, hs⟩ := l.at_
  have sub : ∀ a ∈ Ph.av (φ.1, φ2.2 ++ [D]), a ∈ φ2.av := fun a ha => by
    rcases List.mem_append.mp ha with ha | ha
    · obtain ⟨χ, e, _⟩ := l.g.fst
      exact List.mem_append_left _ (by rw [e]; exact List.mem_append_left _ ha)
    · rcases List.mem_append.mp ha with ha | ha
      · exact List.mem_append_right _ ha
      · rw [List.mem_singleton.mp ha]; exact List.mem_append_left _ l.mem
  refine k (φ.1, φ2.2 ++ [D]) _ H2 ⟨⟨[], by simp, by simp⟩, ?_, l.g.ext, l.g.live⟩ ⟨?_, by simp [l.c.len], fun n a es h1 h2 => ?_, fun a ha z => cH.tr a ha (l.g.live a z), l.c.tb⟩ ⟨D, by
    show (φ2.2 ++ [D])[μ2.length]? = some D
    rw [← l.c.len, List.getElem?_append_right (Nat.le_refl _), Nat.sub_self]; rfl, rfl⟩
  · obtain ⟨ψ, e, hψ⟩ := l.g.pre
    exact ⟨ψ ++ [D], by show φ2.2 ++ [D] = _; rw [e, List.append_assoc], fun a ha => (List.mem_append.mp ha).elim (hψ a) fun z => by rw [List.mem_singleton.mp z]; exact hD⟩
  · show (φ2.2 ++ [D]).Nodup
    rw [List.nodup_append]
    exact ⟨l.c.nd, by simp, fun a ha b hb => by rw [List.mem_singleton.mp hb]; intro z; subst z; exact l.nmem ha⟩
  · by_cases hn : n < φ2.2.length
    · have h1' : φ2.2[n]? = some a := by
        have : (φ2.2 ++ [D])[n]? = some a := h1
        rwa [List.getElem?_append_left hn] at this
      rw [List.getElem?_append_left (by rw [← l.c.len]; exact hn)] at h2
      obtain ⟨ys, h3, h4⟩ := l.c.at_ n a es h1' h2
      exact ⟨ys, h3, DaAll.weak sub es ys h4⟩
    · have hl : n < (φ2.2 ++ [D]).length := (List.getElem?_eq_some_iff.mp h1).1
      have e : n = φ2.2.length := by
        rw [List.length_append, List.length_singleton] at hl; omega
      subst e
      have h1' : (φ2.2 ++ [D])[φ2.2.length]? = some a := h1
      rw [List.getElem?_append_right (Nat.le_refl _), Nat.sub_self] at h1'
      rw [List.getElem?_append_right (by rw [l.c.len]; exact Nat.le_refl _), l.c.len, Nat.sub_self] at h2
      cases h1'
      cases h2
      exact ⟨xs, h, DaAll.weak sub _ xs hs⟩
theorem LcAt.endD (l : LcAt K φ φ2 H H2 D μ2 acc) (cH : Cells K φ H μ) (hD : H D = none) {Q : VK} (k : Post K φ H μ2 (.d (.list acc)) Q) : Q (.ref D) H2 := by
  obtain ⟨xs, h, hs⟩ := l.at_
  have sub : ∀ a ∈ Ph.av (φ.1, φ2.2), a ∈ φ2.av := fun a ha => by
    rcases List.mem_append.mp ha with ha | ha
    · obtain ⟨χ, e, _⟩ := l.g.fst
      exact List.mem_append_left _ (by rw [e]; exact List.mem_append_left _ ha)
    · exact List.mem_append_right _ ha
  refine k (φ.1, φ2.2) _ H2 ⟨⟨[], by simp, by simp⟩, l.g.pre, l.g.ext, l.g.live⟩ ⟨l.c.nd, l.c.len, fun n a es h1 h2 => ?_, fun a ha z => cH.tr a ha (l.g.live a z), l.c.tb⟩ ⟨D, xs, rfl, fun hm => ?_, h, DaAll.weak sub _ xs hs⟩
  · obtain ⟨ys, h3, h4⟩ := l.c.at_ n a es h1 h2
    exact ⟨ys, h3, DaAll.weak sub es ys h4⟩
  · rcases List.mem_append.mp hm with hm | hm
    · exact cH.tr D hm hD
    · exact l.nmem hm
end
theorem wipe_same {τ : L2.St} : ∀ {us : List Nat}, (∀ i ∈ us, ∀ z, τ[i]? ≠ some (some z)) → L2.wipe τ us = τ
  | [], _ => rfl
  | u :: us, h => by
    unfold L2.wipe
    rw [wipe_same fun i hi => h i (List.mem_cons_of_mem _ hi)]
    apply List.ext_getElem?
    intro j
    by_cases ej : j = u
    · subst ej
      by_cases hl : j < τ.length
      · rw [List.getElem?_set_self hl]
        cases q : τ[j]? with
        | none => rw [List.getElem?_eq_none_iff] at q; omega
        | some z =>
          cases z with
          | none => rfl
          | some z => exact absurd q (h j (by simp) z)
      · rw [List.getElem?_eq_none (by simp; omega), List.getElem?_eq_none (by omega)]
    · rw [List.getElem?_set_ne (Ne.symm ej)]
/-- the loop of a comprehension -/
theorem lc_loop {K : PySem.W.Frag} {t : TF} {tt : BF} {fe : EF} {src : Option Nat} {ds : List PyData} {ws vs : List Nat} {J : It} {φ : Ph} {H : Hp} {σ : L2.St} {ρ : Rho} {μ μ9 : Mu} {ps : List PyData} {D : Addr} {Qd : Hp → Prop} (rs : RS K φ σ H ρ μ) (wk : Wk K φ H ds src J) (hD : H D = none)
    (hvs : ∀ i ∈ ws, i ∈ vs) (e : lcM t tt fe src ds ds (wipeR ρ vs) μ = some (ps, μ9)) (hlen : ps.length ≤ 1000000) (hd : ∀ φ2 H2, LcAt K φ φ2 H H2 D μ9 ps → Qd H2) :
    ∃ W : Nat → Nat → Hp → Prop, (∃ m, W 0 m (upd H D (.lst []))) ∧ ∀ i m H, W i m H →
      (J.stop i H ∧ Qd H) ∨ (J.go i H ∧ ∃ Nx : Hp → Prop, (∀ H', Nx H' → ∃ m', m' < m ∧ W (i + 1) m' H') ∧ ∀ x H', J.yld i H x H' → tG K t ws x (L2.wipe σ vs) H' fun σ2 H2 => L2.wipe σ2 vs = L2.wipe σ vs ∧ tT K tt σ2 H2 fun b H3 =>
        if b = true then tE K fe σ2 H3 fun y H4 => ∃ acc, H4 D = some (.lst acc) ∧ acc.length < sizeLine ∧ Nx (upd H4 D (.lst (acc ++ [y]))) else Nx H3) := by
  refine ⟨fun i m H' => m = ds.length - i ∧ ∃ φ2 μ2 acc rest, LcAt K φ φ2 H H' D μ2 acc ∧ lcM t tt fe src ds (ds.drop i) (wipeR ρ vs) μ2 = some (rest, μ9) ∧ acc ++ rest = ps, ⟨_, rfl, _, μ, [], ps, LcAt.start rs.c hD, e, rfl⟩, ?_⟩
  rintro i m H2 ⟨rfl, φ2, μ2, acc, rest, l, e2, eps⟩
  cases hdi : ds.drop i with
  | nil =>
    rw [hdi] at e2
    unfold lcM at e2
    split at e2
    · rename_i hsrc
      cases e2
      rw [List.append_nil] at eps
      subst eps
      exact .inl ⟨(wk φ2 H2 _ l.g l.c hsrc i).2 (List.drop_eq_nil_iff.mp hdi), hd φ2 H2 l⟩
    · cases e2
  | cons d r =>
    rw [hdi] at e2
    have hil : i < ds.length := by
      by_cases z : i < ds.length
      · exact z
      · rw [List.drop_eq_nil_iff.mpr (by omega)] at hdi; cases hdi
    have hdg : ds[i]? = some d := by
      have := List.getElem?_drop (xs := ds) (i := i) (j := 0)
      rw [hdi] at this
      simpa using this.symm
    have hdr : ds.drop (i + 1) = r := by
      have : (ds.drop i).drop 1 = ds.drop (i + 1) := by rw [List.drop_drop]
      rw [← this, hdi]; rfl
    unfold lcM at e2
    split at e2
    · rename_i hsrc
      obtain ⟨go, hy⟩ := (wk φ2 H2 μ2 l.g l.c hsrc i).1 d hdg
      refine .inr ⟨go, fun H' => ∃ φ2 μ2 acc rest, LcAt K φ φ2 H H' D μ2 acc ∧ lcM t tt fe src ds (ds.drop (i + 1)) (wipeR ρ vs) μ2 = some (rest, μ9) ∧ acc ++ rest = ps, fun H' hN => ⟨ds.length - (i + 1), by omega, rfl, hN⟩, fun x H3 hyl => ?_⟩
      obtain ⟨g3, c3, hx⟩ := hy x H3 hyl
      have l3 := l.step g3 c3
      split at e2
      · cases e2
      · rename_i ρ3 e3
        have rs3 : RS K φ2 (L2.wipe σ vs) H3 (wipeR ρ vs) μ2 := (rs.wipe vs).step l3.g c3
        refine ⟨φ2, _, μ2, .d d, ρ3, rs3, hx, e3, fun σ4 rs4 w4 => ⟨?_, ?_⟩⟩
        · have := w4 vs hvs
          rw [this]
          exact wipe_same fun i hi z hz => (wipe_some hz).2 hi
        · split at e2
          · rename_i μ4 e4
            refine ⟨φ2, ρ3, μ2, true, μ4, rs4, e4, fun φ5 H5 g5 c5 => L2.iteT ?_⟩
            have l5 := l3.step g5 c5
            split at e2
            · rename_i p μ6 e6
              obtain ⟨⟨rest', μ7⟩, e7, e8⟩ := Option.map_eq_some_iff.mp e2
              cases e8
              refine ⟨φ5, ρ3, μ4, .d p, μ6, rs4.step g5 c5, e6, fun φ8 y H8 g8 c8 r8 => ?_⟩
              have l8 := l5.step g8 c8
              obtain ⟨xs, hx1, hx2, l9⟩ := l8.add hD r8
              refine ⟨xs, hx1, ?_, φ8, μ6, acc ++ [p], rest', l9, by rw [hdr]; exact e7, by rw [List.append_assoc]; exact eps⟩
              have : (acc ++ p :: rest').length ≤ 1000000 := by rw [show acc ++ p :: rest' = ps from eps]; exact hlen
              rw [List.length_append, List.length_cons] at this
              exact size_lt (by omega)
            · cases e2
          · rename_i μ4 e4
            refine ⟨φ2, ρ3, μ2, false, μ4, rs4, e4, fun φ5 H5 g5 c5 => L2.iteF ?_⟩
            exact ⟨φ5, μ4, acc, rest, l3.step g5 c5, by rw [hdr]; exact e2, eps⟩
          · cases e2
    · cases e2
section
variable {K : PySem.W.Frag} {fi : IF} {t : TF} {tt : BF} {fe : EF} {ws vs : List Nat}
theorem tE_lcC (hvs : ∀ i ∈ ws, i ∈ vs) : ∀ σ H Q, tE K (eLcC fi t tt fe vs) σ H Q → tLc (tI K fi) (tG K t ws) (tT K tt) (tE K fe) vs σ H Q := fun σ H Q ⟨φ, ρ, μ, w, μ', rs, e, k⟩ => by
  unfold eLcC at e
  split at e
  · rename_i ds src μ1 e1
    split at e
    · rename_i ps μ2 e2
      split at e
      · rename_i hl
        cases e
        refine ⟨φ, ρ, μ, ds, src, μ1, rs, e1, fun φ1 J H1 g1 c1 wk D hD => ?_⟩
        exact lc_loop (rs.step g1 c1) wk hD hvs e2 hl fun φ2 H2 l => l.endC c1 hD fun φ3 v3 H3 g3 c3 r3 => k φ3 v3 H3 (g1.trans g3) c3 r3
      · cases e
    · cases e
  · cases e
theorem tE_lc (hvs : ∀ i ∈ ws, i ∈ vs) : ∀ σ H Q, tE K (eLc fi t tt fe vs) σ H Q → tLc (tI K fi) (tG K t ws) (tT K tt) (tE K fe) vs σ H Q := fun σ H Q ⟨φ, ρ, μ, w, μ', rs, e, k⟩ => by
  unfold eLc at e
  split at e
  · rename_i ds src μ1 e1
    split at e
    · rename_i ps μ2 e2
      split at e
      · rename_i hl
        cases e
        refine ⟨φ, ρ, μ, ds, src, μ1, rs, e1, fun φ1 J H1 g1 c1 wk D hD => ?_⟩
        exact lc_loop (rs.step g1 c1) wk hD hvs e2 hl fun φ2 H2 l => l.endD c1 hD fun φ3 v3 H3 g3 c3 r3 => k φ3 v3 H3 (g1.trans g3) c3 r3
      · cases e
    · cases e
  · cases e
end
section
variable {X : Cx} {elt tg iter : Expr} {ifs : List Expr} {scope : Scope} {own : List (Str × Nat)} {pos : Pos} {fi : IF} {t : TF} {tt : BF} {fe : EF} {ws : List Nat}
theorem ej_lc (hc : X.calm = true) (hN : X.N.Nodup) (hi : PI X tg iter (tI X.K fi)) (ok : BlkOk X.N X.env.scope scope own) (hvs : ∀ i ∈ ws, i ∈ own.map (·.2))
    (hg : ∀ (s : Shared) (H : Hp) (C : Addr) (cl : List (Str × Addr)) (fp : List Addr), PG (X.blk s H scope (compEnvC scope cl C X.env) fp) tg (tG X.K t ws)) (ht : ∀ (s : Shared) (H : Hp) (C : Addr) (cl : List (Str × Addr)) (fp : List Addr), PTs (X.blk s H scope (compEnvC scope cl C X.env) fp) ifs (tT X.K tt))
    (he : ∀ (s : Shared) (H : Hp) (C : Addr) (cl : List (Str × Addr)) (fp : List Addr), PE (X.blk s H scope (compEnvC scope cl C X.env) fp) elt (tE X.K fe)) (hs : ∀ x, foldedSetIterable iter X.env x = pure x := by intro _; rfl) :
    PE X (.ListComp elt [⟨tg, iter, ifs, 0⟩] scope pos) (tE X.K (eLc fi t tt fe (own.map (·.2)))) := PE.to (pe_lc hc hN hi ok hg ht he hs) (tE_lc hvs)
theorem ej_lcC (hc : X.calm = true) (hN : X.N.Nodup) (hi : PI X tg iter (tI X.K fi)) (ok : BlkOk X.N X.env.scope scope own) (hvs : ∀ i ∈ ws, i ∈ own.map (·.2))
    (hg : ∀ (s : Shared) (H : Hp) (C : Addr) (cl : List (Str × Addr)) (fp : List Addr), PG (X.blk s H scope (compEnvC scope cl C X.env) fp) tg (tG X.K t ws)) (ht : ∀ (s : Shared) (H : Hp) (C : Addr) (cl : List (Str × Addr)) (fp : List Addr), PTs (X.blk s H scope (compEnvC scope cl C X.env) fp) ifs (tT X.K tt))
    (he : ∀ (s : Shared) (H : Hp) (C : Addr) (cl : List (Str × Addr)) (fp : List Addr), PE (X.blk s H scope (compEnvC scope cl C X.env) fp) elt (tE X.K fe)) (hs : ∀ x, foldedSetIterable iter X.env x = pure x := by intro _; rfl) :
    PE X (.ListComp elt [⟨tg, iter, ifs, 0⟩] scope pos) (tE X.K (eLcC fi t tt fe (own.map (·.2)))) := PE.to (pe_lc hc hN hi ok hg ht he hs) (tE_lcC hvs)
/-- name = [..] -/
theorem sj_setLc_ {i : Nat} {y : Str} {py : Pos} {spos : Pos} {vs : List Nat} {f : EF} (hf : ∀ σ H Q, tE X.K f σ H Q → tLc (tI X.K fi) (tG X.K t ws) (tT X.K tt) (tE X.K fe) (own.map (·.2)) σ H Q) (hc : X.calm = true) (hN : X.N.Nodup) (hi : PI X tg iter (tI X.K fi)) (ok : BlkOk X.N X.env.scope scope own)
    (hg : ∀ (s : Shared) (H : Hp) (C : Addr) (cl : List (Str × Addr)) (fp : List Addr), PG (X.blk s H scope (compEnvC scope cl C X.env) fp) tg (tG X.K t ws)) (ht : ∀ (s : Shared) (H : Hp) (C : Addr) (cl : List (Str × Addr)) (fp : List Addr), PTs (X.blk s H scope (compEnvC scope cl C X.env) fp) ifs (tT X.K tt))
    (he : ∀ (s : Shared) (H : Hp) (C : Addr) (cl : List (Str × Addr)) (fp : List Addr), PE (X.blk s H scope (compEnvC scope cl C X.env) fp) elt (tE X.K fe)) (hy : X.N[i]? = some y) (hyl : X.env.scope.names.lookup y = some .local)
    (hsw : swapsWith (.ListComp elt [⟨tg, iter, ifs, 0⟩] scope pos) (some (.Name y py)) spos.line X.env = pure true) (hs : ∀ x, foldedSetIterable iter X.env x = pure x) :
    PS X (.Assign [.Name y py] (.ListComp elt [⟨tg, iter, ifs, 0⟩] scope pos) spos) (tS X.K (sAsg f (tNm i))) := PS.to (ps_setLc hc hN hy hyl hsw hi ok hg ht he hs) fun D σ H q => by
  refine hf σ H _ ?_
  obtain ⟨φ, ρ, μ, w, μ1, rs, e1, k⟩ := tS_asg (vs := [i]) D σ H q
  refine ⟨φ, ρ, μ, w, μ1, rs, e1, fun φ1 v1 H1 g1 c1 r1 => ?_⟩
  obtain ⟨φ2, ρ2, μ2, w2, ρ3, rs2, rv2, e2, k2⟩ := k φ1 v1 H1 g1 c1 r1
  cases e2
  exact k2 _ (rs2.put rv2) fun us hu => wipe_put (hu i (by simp))
theorem sj_setLc {i : Nat} {y : Str} {py : Pos} {spos : Pos} (hc : X.calm = true) (hN : X.N.Nodup) (hi : PI X tg iter (tI X.K fi)) (ok : BlkOk X.N X.env.scope scope own) (hvs : ∀ i ∈ ws, i ∈ own.map (·.2))
    (hg : ∀ (s : Shared) (H : Hp) (C : Addr) (cl : List (Str × Addr)) (fp : List Addr), PG (X.blk s H scope (compEnvC scope cl C X.env) fp) tg (tG X.K t ws)) (ht : ∀ (s : Shared) (H : Hp) (C : Addr) (cl : List (Str × Addr)) (fp : List Addr), PTs (X.blk s H scope (compEnvC scope cl C X.env) fp) ifs (tT X.K tt))
    (he : ∀ (s : Shared) (H : Hp) (C : Addr) (cl : List (Str × Addr)) (fp : List Addr), PE (X.blk s H scope (compEnvC scope cl C X.env) fp) elt (tE X.K fe)) (hy : X.N[i]? = some y := by rfl) (hyl : X.env.scope.names.lookup y = some .local := by rfl)
    (hsw : swapsWith (.ListComp elt [⟨tg, iter, ifs, 0⟩] scope pos) (some (.Name y py)) spos.line X.env = pure true := by exact sw_true rfl rfl rfl (by decide +kernel)) (hs : ∀ x, foldedSetIterable iter X.env x = pure x := by intro _; rfl) :
    PS X (.Assign [.Name y py] (.ListComp elt [⟨tg, iter, ifs, 0⟩] scope pos) spos) (tS X.K (sAsg (eLc fi t tt fe (own.map (·.2))) (tNm i))) := sj_setLc_ (vs := []) (tE_lc hvs) hc hN hi ok hg ht he hy hyl hsw hs
theorem sj_setLcC {i : Nat} {y : Str} {py : Pos} {spos : Pos} (hc : X.calm = true) (hN : X.N.Nodup) (hi : PI X tg iter (tI X.K fi)) (ok : BlkOk X.N X.env.scope scope own) (hvs : ∀ i ∈ ws, i ∈ own.map (·.2))
    (hg : ∀ (s : Shared) (H : Hp) (C : Addr) (cl : List (Str × Addr)) (fp : List Addr), PG (X.blk s H scope (compEnvC scope cl C X.env) fp) tg (tG X.K t ws)) (ht : ∀ (s : Shared) (H : Hp) (C : Addr) (cl : List (Str × Addr)) (fp : List Addr), PTs (X.blk s H scope (compEnvC scope cl C X.env) fp) ifs (tT X.K tt))
    (he : ∀ (s : Shared) (H : Hp) (C : Addr) (cl : List (Str × Addr)) (fp : List Addr), PE (X.blk s H scope (compEnvC scope cl C X.env) fp) elt (tE X.K fe)) (hy : X.N[i]? = some y := by rfl) (hyl : X.env.scope.names.lookup y = some .local := by rfl)
    (hsw : swapsWith (.ListComp elt [⟨tg, iter, ifs, 0⟩] scope pos) (some (.Name y py)) spos.line X.env = pure true := by exact sw_true rfl rfl rfl (by decide +kernel)) (hs : ∀ x, foldedSetIterable iter X.env x = pure x := by intro _; rfl) :
    PS X (.Assign [.Name y py] (.ListComp elt [⟨tg, iter, ifs, 0⟩] scope pos) spos) (tS X.K (sAsg (eLcC fi t tt fe (own.map (·.2))) (tNm i))) := sj_setLc_ (vs := []) (tE_lcC hvs) hc hN hi ok hg ht he hy hyl hsw hs
end
end VL
end
section
set_option Elab.async false
set_option linter.all false
set_option maxRecDepth 100000
namespace VL
open PySem PySem.Spec PyProof.Rows L2
variable [LawTabs]
/-! ### defs -/
abbrev FM := Mu → List Vw → Option (Vw × Mu)
def spM (K : PySem.W.Frag) (n : Nat) (m : FM) : Sp := fun vs H Q _ => ∃ φ μ ws w μ', Cells K φ H μ ∧ RVs K φ H ws vs ∧ ws.length = n ∧ m μ ws = some (w, μ') ∧ Post K φ H μ' w Q
@[simp] def frz (fresh : Bool) (n : Nat) (w : Vw) (μ1 : Mu) : Option (Vw × Mu) := match w with
  | .loc k => if k < n then some (.loc k, μ1.take n) else (match μ1[k]? with
    | some ds => if fresh = true then some (.loc n, μ1.take n ++ [ds]) else some (.d (.list ds), μ1.take n)
    | none => none)
  | w => some (w, μ1.take n)
def fnM (fresh : Bool) (n : Nat) (body : SF) (μ : Mu) (ws : List Vw) : Option (Vw × Mu) := match body (ws.map some ++ List.replicate (n - ws.length) none) μ with
  | some (.rt w μ1) => frz fresh μ.length w μ1
  | some (.nx _ μ1) => some (.d .none, μ1.take μ.length)
  | _ => none
section
variable {K : PySem.W.Frag} {φ φ2 : Ph} {H H2 : Hp} {μ μ1 : Mu}
theorem sub_av (g : Grow φ φ2 H H2) : ∀ a ∈ φ.av, a ∈ φ2.av := fun a ha => by
  obtain ⟨⟨χ, e1, _⟩, ⟨ψ, e2, _⟩, _, _⟩ := g
  rcases List.mem_append.mp ha with ha | ha
  · exact List.mem_append_left _ (by rw [e1]; exact List.mem_append_left _ ha)
  · exact List.mem_append_right _ (by rw [e2]; exact List.mem_append_left _ ha)
theorem cut_cells (c0 : Cells K φ H μ) (g : Grow φ φ2 H H2) (c : Cells K φ2 H2 μ1) : Cells K φ H2 (μ1.take μ.length) := by
  obtain ⟨ψ, e2, _⟩ := g.pre
  have hl : φ.2.length ≤ φ2.2.length := by rw [e2, List.length_append]; omega
  refine ⟨c0.nd, by rw [List.length_take, ← c.len, ← c0.len]; omega, fun n a ds h1 h2 => ?_, fun a ha z => c0.tr a ha (g.live a z), c.tb⟩
  have hn : n < φ.2.length := (List.getElem?_eq_some_iff.mp h1).1
  have h1' : φ2.2[n]? = some a := by rw [e2, List.getElem?_append_left hn]; exact h1
  have h2' : μ1[n]? = some ds := by
    rw [List.getElem?_take] at h2
    split at h2
    · exact h2
    · cases h2
  obtain ⟨xs, h3, h4⟩ := c.at_ n a ds h1' h2'
  exact ⟨xs, h3, DaAll.weak (sub_av g) ds xs h4⟩
theorem cut_grow (g : Grow φ φ2 H H2) : Grow φ φ H H2 := ⟨⟨[], by simp, by simp⟩, ⟨[], by simp, by simp⟩, g.ext, g.live⟩
theorem frz_post {fresh : Bool} {w w' : Vw} {v : V} {μ' : Mu} {Q : VK} (c0 : Cells K φ H μ) (g : Grow φ φ2 H H2) (c : Cells K φ2 H2 μ1) (r : RV K φ2 H2 w v) (e : frz fresh μ.length w μ1 = some (w', μ')) (k : Post K φ H μ' w' Q) : Q v H2 := by
  have c1 := cut_cells c0 g c
  have g1 := cut_grow g
  obtain ⟨ψ, e2, hψ⟩ := id g.pre
  unfold frz at e
  split at e
  · rename_i n
    split at e
    · rename_i hn
      cases e
      refine k φ v H2 g1 c1 ?_
      obtain ⟨a, h1, h2⟩ := r
      refine ⟨a, ?_, h2⟩
      rw [e2, List.getElem?_append_left (by rw [c0.len]; exact hn)] at h1
      exact h1
    · rename_i hn
      split at e
      · rename_i ds hds
        obtain ⟨a, h1, h2⟩ := r
        obtain ⟨xs, h3, h4⟩ := c.at_ n a ds h1 hds
        have ha : a ∈ φ2.2 := List.mem_of_getElem? h1
        have hna : a ∉ φ.2 := fun z => by
          obtain ⟨m, hm⟩ := List.getElem?_of_mem z
          have hm1 := (List.getElem?_eq_some_iff.mp hm).1
          have hm2 : φ2.2[m]? = some a := by rw [e2, List.getElem?_append_left hm1]; exact hm
          have h5 := List.getElem?_eq_some_iff.mp h1
          have h6 := List.getElem?_eq_some_iff.mp hm2
          have := (List.getElem_inj c.nd).mp (h5.2.trans h6.2.symm)
          rw [c0.len] at hm1
          omega
        have hnew : H a = none := by
          rw [e2] at ha
          rcases List.mem_append.mp ha with z | z
          · exact absurd z hna
          · exact hψ a z
        split at e
        · cases e
          have sub : ∀ b ∈ Ph.av (φ.1, φ.2 ++ [a]), b ∈ φ2.av := fun b hb => by
            rcases List.mem_append.mp hb with hb | hb
            · exact sub_av g b (List.mem_append_left _ hb)
            · rcases List.mem_append.mp hb with hb | hb
              · exact sub_av g b (List.mem_append_right _ hb)
              · rw [List.mem_singleton.mp hb]; exact List.mem_append_right _ ha
          subst h2
          refine k (φ.1, φ.2 ++ [a]) _ H2 ⟨⟨[], by simp, by simp⟩, ⟨[a], rfl, fun b hb => by rw [List.mem_singleton.mp hb]; exact hnew⟩, g.ext, g.live⟩ ⟨?_, ?_, fun m b es q1 q2 => ?_, c1.tr, c.tb⟩ ⟨a, ?_, rfl⟩
          · show (φ.2 ++ [a]).Nodup
            rw [List.nodup_append]
            exact ⟨c0.nd, by simp, fun x hx y hy => by rw [List.mem_singleton.mp hy]; intro z; subst z; exact hna hx⟩
          · show (φ.2 ++ [a]).length = _
            rw [List.length_append, List.length_append, ← c1.len]; rfl
          · by_cases hm : m < φ.2.length
            · have q1' : φ.2[m]? = some b := by
                have : (φ.2 ++ [a])[m]? = some b := q1
                rwa [List.getElem?_append_left hm] at this
              rw [List.getElem?_append_left (by rw [← c1.len]; exact hm)] at q2
              have hl1 : m < μ1.length := by
                have := (List.getElem?_eq_some_iff.mp q2).1
                rw [List.length_take] at this; omega
              have q2' : μ1[m]? = some es := by
                rw [List.getElem?_take] at q2
                split at q2
                · exact q2
                · cases q2
              obtain ⟨ys, h5, h6⟩ := c.at_ m b es (by rw [e2, List.getElem?_append_left hm]; exact q1') q2'
              exact ⟨ys, h5, DaAll.weak sub es ys h6⟩
            · have hl : m < (φ.2 ++ [a]).length := (List.getElem?_eq_some_iff.mp q1).1
              have em : m = φ.2.length := by
                rw [List.length_append, List.length_singleton] at hl; omega
              subst em
              have q1' : (φ.2 ++ [a])[φ.2.length]? = some b := q1
              rw [List.getElem?_append_right (Nat.le_refl _), Nat.sub_self] at q1'
              rw [List.getElem?_append_right (by rw [c1.len]; exact Nat.le_refl _), c1.len, Nat.sub_self] at q2
              cases q1'
              cases q2
              exact ⟨xs, h3, DaAll.weak sub _ xs h4⟩
          · show (φ.2 ++ [a])[μ.length]? = some a
            rw [← c0.len, List.getElem?_append_right (Nat.le_refl _), Nat.sub_self]; rfl
        · cases e
          refine k φ v H2 g1 c1 ⟨a, xs, h2, fun z => ?_, h3, DaAll.weak (sub_av g) ds xs h4⟩
          rcases List.mem_append.mp z with z | z
          · exact c0.tr a z hnew
          · exact hna z
      · cases e
  · rename_i hne
    cases e
    refine k φ v H2 g1 c1 ?_
    cases w with
    | d p => exact Da.weak (sub_av g) p v r
    | loc n => exact absurd rfl (hne n)
    | kl ns => obtain ⟨a, h1, h2⟩ := r; exact ⟨a, h1, KL.weak (sub_av g) h2⟩
    | rg lo hi => exact r
end
theorem rvs_start {K : PySem.W.Frag} {φ : Ph} {H : Hp} {μ : Mu} {ws : List Vw} {vs : List V} {N : List Str} (c : Cells K φ H μ) (r : RVs K φ H ws vs) : RS K φ (L2.start N vs) H (ws.map some ++ List.replicate (N.length - ws.length) none) μ := by
  have hl := r.len
  refine ⟨c, by unfold L2.start; simp [hl], fun i w h => ?_⟩
  by_cases hi : i < ws.length
  · rw [List.getElem?_append_left (by simpa using hi), List.getElem?_map] at h
    obtain ⟨z, h1, h2⟩ := Option.map_eq_some_iff.mp h
    cases h2
    obtain ⟨v, h3, h4⟩ := r.get h1
    exact ⟨v, by unfold L2.start; rw [List.getElem?_append_left (by rw [List.length_map, ← hl]; exact hi), List.getElem?_map, h3]; rfl, h4⟩
  · rw [List.getElem?_append_right (by simpa using hi)] at h
    have := List.mem_of_getElem? h
    rw [List.mem_replicate] at this
    cases this.2
section
variable {P : Program} {w : World} {K : PySem.W.Frag} {mg : Str → Option Value} {base : Heap}
/-- a def keeps the mirror's promise -/
theorem fn_ok (fresh : Bool) {x qual : Str} {params : Arguments} {body : List Stmt} {scope : Scope} {kws : List (Str × V)} {f : Addr} {fd : FuncData} {N ps : List Str} {k : Nat} {g : SF} (F : FunD K x qual params body scope [] kws f fd) (S : FnScope N ps scope)
    (h : ∀ (cdv : Value) (A : Around) (outer : List Env) (s : Shared) (H : Hp) (E : XK), Room k (A.deeper (envOfC qual scope s.heap.objs.size f cdv)) → PSs (cxOf CX0 P w K mg base N qual scope f cdv A outer s H E).nox body (tS K g)) :
    FnOk P w K mg base CX0 (k + 1) f fd ps (spM K ps.length (fnM fresh N.length g)) := by
  refine F.ok S (fun vs H Q E ⟨φ, μ, ws, w, μ', c, r, hl, e, k⟩ => by rw [← r.len, hl]) fun cdv A outer s H vs Q E hr hsp => ⟨_, (h cdv A outer s H E hr).nox, ?_⟩
  obtain ⟨φ, μ, ws, w, μ', c, r, hl, e, k⟩ := hsp
  refine ⟨φ, _, μ, rvs_start c r, ?_⟩
  unfold fnM at e
  split at e
  · rename_i w1 μ1 e1
    rw [e1]
    exact fun φ2 v2 H2 g2 c2 r2 => frz_post c g2 c2 r2 e k
  · rename_i ρ1 μ1 e1
    cases e
    rw [e1]
    exact fun φ2 σ2 H2 g2 r2 => k φ .non H2 (cut_grow g2) (cut_cells c g2 r2.c) rfl
  · cases e
/-- what may be called by the name x -/
structure CalM (P : Program) (w : World) (K : PySem.W.Frag) (mg : Str → Option Value) (base : Heap) (k : Nat) (x : Str) (n : Nat) (m : FM) : Prop where
  ex : ∃ f fd ps, FnOk P w K mg base CX0 k f fd ps (spM K n m) ∧ mg x = some (.ref f) ∧ PySem.W.keepIn K (.ref f) = true ∧ Binds K fd ps []
theorem CalM.mono {j k : Nat} {x : Str} {n : Nat} {m : FM} (c : CalM P w K mg base j x n m) (h : j ≤ k) : CalM P w K mg base k x n m := by
  obtain ⟨f, fd, ps, h1, h2, h3, h4⟩ := c.ex
  exact ⟨f, fd, ps, h1.mono h, h2, h3, h4⟩
theorem cal_ok (fresh : Bool) {x : Str} {params : Arguments} {body : List Stmt} {scope : Scope} {f : Addr} {fd : FuncData} {N ps : List Str} {k : Nat} {g : SF} (hf : mg x = some (.ref f)) (F : FunD K x x params body scope [] [] f fd) (S : FnScope N ps scope)
    (hb : ∀ (kV doc pm : Value) (an : Option Addr) (cdv ct : Value) (us : List Value), us.length = ps.length → bindArgs (PySem.W.fnOf x x params body scope .none kV doc pm an cdv ct) ⟨us, []⟩ = pure (ps.zip us))
    (h : ∀ (cdv : Value) (A : Around) (outer : List Env) (s : Shared) (H : Hp) (E : XK), Room k (A.deeper (envOfC x scope s.heap.objs.size f cdv)) → PSs (cxOf CX0 P w K mg base N x scope f cdv A outer s H E).nox body (tS K g)) :
    CalM P w K mg base (k + 1) x ps.length (fnM fresh N.length g) := ⟨f, fd, ps, fn_ok fresh F S h, hf, F.kp, F.bindsN hb⟩
end
@[simp] def eCall (n : Nat) (m : FM) (fa : AF) (ρ : Rho) (μ : Mu) : Option (Vw × Mu) := match fa ρ μ with
  | some (ws, μ1) => if ws.length = n then m μ1 ws else none
  | none => none
section
variable {X : Cx} {k n : Nat} {x : Str} {m : FM} {e : Expr} {es : List Expr} {fa : AF} {p pos : Pos}
theorem ej_call (c : CalM X.prog X.w X.K X.mg X.base k x n m) (hr : Room k X.A) (ha : PA X (e :: es) (tA X.K fa)) (hg : Gl X x := by rfl) (hdb : (x == ("__debug__" : Str)) = false := by decide)
    (he : starEach (e :: es) X.env = (false, eval e X.env) :: starEach es X.env := by rfl) (hpl : (backTo pos (starEach es X.env)).any (·.1) = false := by rfl) : PE X (.Call (.Name x p) (e :: es) [] pos) (tE X.K (eCall n m fa)) := by
  obtain ⟨f, fd, ps, F, hm, hk, hb⟩ := c.ex
  refine PE.to (pe_call F hr hg hm hk hb .nil pass0 ha hdb he hpl) fun σ H Q ⟨φ, ρ, μ, w, μ', rs, e, k⟩ => ?_
  unfold eCall at e
  split at e
  · rename_i ws μ1 e1
    split at e
    · rename_i hl
      refine ⟨φ, ρ, μ, ws, μ1, rs, e1, fun φ1 vs H1 g1 c1 r1 => ?_⟩
      refine ⟨φ1, μ1, ws, w, μ', c1, by rw [List.append_nil]; exact r1, hl, e, fun φ2 v2 H2 g2 c2 r2 => k φ2 v2 H2 (g1.trans g2) c2 r2⟩
    · cases e
  · cases e
theorem ej_call0 (c : CalM X.prog X.w X.K X.mg X.base k x n m) (hr : Room k X.A) (hg : Gl X x := by rfl) (hdb : (x == ("__debug__" : Str)) = false := by decide) : PE X (.Call (.Name x p) [] [] pos) (tE X.K (eCall n m aNil)) := by
  obtain ⟨f, fd, ps, F, hm, hk, hb⟩ := c.ex
  refine PE.to (pe_call0 F hr hg hm hk hb .nil pass0 hdb) fun σ H Q ⟨φ, ρ, μ, w, μ', rs, e, k⟩ => ?_
  unfold eCall aNil at e
  simp only at e
  split at e
  · rename_i hl
    exact ⟨φ, μ, [], w, μ', rs.c, rfl, hl, e, k⟩
  · cases e
/-! ### built-in functions -/
def OL (K : PySem.W.Frag) (r : List V → Hp → VK → Prop) (o : Mu → List Vw → Option Vw) : Prop := ∀ (φ : Ph) (H : Hp) (μ : Mu) (ws : List Vw) (w : Vw) (vs : List V) (Q : VK), Cells K φ H μ → RVs K φ H ws vs → o μ ws = some w → Post K φ H μ w Q → r vs H Q
@[simp] def eBi (o : Mu → List Vw → Option Vw) (fa : AF) (ρ : Rho) (μ : Mu) : Option (Vw × Mu) := match fa ρ μ with
  | some (ws, μ1) => (o μ1 ws).map fun z => (z, μ1)
  | none => none
theorem tE_bi {K : PySem.W.Frag} {r : List V → Hp → VK → Prop} {o : Mu → List Vw → Option Vw} (h : OL K r o) : ∀ σ H Q, tE K (eBi o fa) σ H Q → tCB r (tA K fa) σ H Q := fun σ H Q ⟨φ, ρ, μ, w, μ', rs, e, k⟩ => by
  unfold eBi at e
  split at e
  · rename_i ws μ1 e1
    obtain ⟨z, ez, e3⟩ := Option.map_eq_some_iff.mp e
    cases e3
    exact ⟨φ, ρ, μ, ws, _, rs, e1, fun φ1 vs H1 g1 c1 r1 => h φ1 H1 _ ws w vs Q c1 r1 ez fun φ2 v2 H2 g2 c2 r2 => k φ2 v2 H2 (g1.trans g2) c2 r2⟩
  · cases e
theorem ej_bi {id : String} {r : List V → Hp → VK → Prop} {o : Mu → List Vw → Option Vw} (hc : CallR X (.builtin id) r) (h : OL X.K r o) (hm : X.mg x = none) (ha : PA X (e :: es) (tA X.K fa)) (hv : bootBuiltins x = some (.builtin id)) (hg : Gl X x := by rfl) (hn : x ≠ "__name__" := by decide) (hdb : (x == ("__debug__" : Str)) = false := by decide)
    (he : starEach (e :: es) X.env = (false, eval e X.env) :: starEach es X.env := by rfl) (hpl : (backTo pos (starEach es X.env)).any (·.1) = false := by rfl) : PE X (.Call (.Name x p) (e :: es) [] pos) (tE X.K (eBi o fa)) := PE.to (pe_callB hc hg hm hv ha hn hdb he hpl) (tE_bi h)
theorem ej_bif {id : String} {r : List V → Hp → VK → Prop} {o : Mu → List Vw → Option Vw} (hc : CallR X (.builtin id) r) (h : OL X.K r o) (hm : X.mg x = some (.builtin id)) (ha : PA X (e :: es) (tA X.K fa)) (hg : Gl X x := by rfl) (hdb : (x == ("__debug__" : Str)) = false := by decide)
    (he : starEach (e :: es) X.env = (false, eval e X.env) :: starEach es X.env := by rfl) (hpl : (backTo pos (starEach es X.env)).any (·.1) = false := by rfl) : PE X (.Call (.Name x p) (e :: es) [] pos) (tE X.K (eBi o fa)) := PE.to (pe_callBfun hc hg hm ha hdb he hpl) (tE_bi h)
theorem ej_ty {T : String} {r : List V → Hp → VK → Prop} {o : Mu → List Vw → Option Vw} (hc : CallR X (.type T) r) (h : OL X.K r o) (hm : X.mg x = none) (ha : PA X (e :: es) (tA X.K fa)) (hv : bootBuiltins x = some (.type T)) (hg : Gl X x := by rfl) (hn : x ≠ "__name__" := by decide) (hdb : (x == ("__debug__" : Str)) = false := by decide)
    (he : starEach (e :: es) X.env = (false, eval e X.env) :: starEach es X.env := by rfl) (hpl : (backTo pos (starEach es X.env)).any (·.1) = false := by rfl) : PE X (.Call (.Name x p) (e :: es) [] pos) (tE X.K (eBi o fa)) := PE.to (pe_callTy hc hg hm hv ha hn hdb he hpl) (tE_bi h)
end
section
variable {K : PySem.W.Frag}
theorem rvs1 {φ : Ph} {H : Hp} {x : Vw} {vs : List V} (r : RVs K φ H [x] vs) : ∃ v, vs = [v] ∧ RV K φ H x v := by
  obtain ⟨v, r', e, h, h2⟩ := r
  have : r' = [] := h2
  subst this
  exact ⟨v, e, h⟩
theorem rvs2 {φ : Ph} {H : Hp} {x y : Vw} {vs : List V} (r : RVs K φ H [x, y] vs) : ∃ u v, vs = [u, v] ∧ RV K φ H x u ∧ RV K φ H y v := by
  obtain ⟨u, r', e, h, v, r2, e2, h2, h3⟩ := r
  have : r2 = [] := h3
  subst this e2
  exact ⟨u, v, e, h, h2⟩
@[simp] def oAbs (_ : Mu) (ws : List Vw) : Option Vw := match ws with
  | [.d (.int i)] => some (.d (.int (if i < 0 then -i else i)))
  | _ => none
theorem oAbs_ok : OL K (fun xs H Q => ∃ i, xs = [.int i] ∧ Q (.int (if i < 0 then -i else i)) H) oAbs := by
  intro φ H μ ws w vs Q c r e k
  unfold oAbs at e
  split at e
  · rename_i i
    cases e
    obtain ⟨v, rfl, h⟩ := rvs1 r
    cases h
    exact ⟨i, rfl, post_here k c rfl⟩
  · cases e
@[simp] def oMax2 (_ : Mu) (ws : List Vw) : Option Vw := match ws with
  | [.d (.int i), .d (.int j)] => some (.d (.int (if j > i then j else i)))
  | _ => none
theorem oMax2_ok : OL K (fun xs H Q => ∃ i j, xs = [.int i, .int j] ∧ Q (.int (if j > i then j else i)) H) oMax2 := by
  intro φ H μ ws w vs Q c r e k
  unfold oMax2 at e
  split at e
  · rename_i i j
    cases e
    obtain ⟨u, v, rfl, h, h2⟩ := rvs2 r
    cases h
    cases h2
    exact ⟨i, j, rfl, post_here k c rfl⟩
  · cases e
@[simp] def oMin2 (_ : Mu) (ws : List Vw) : Option Vw := match ws with
  | [.d (.int i), .d (.int j)] => some (.d (.int (if j < i then j else i)))
  | _ => none
theorem oMin2_ok : OL K (fun xs H Q => ∃ i j, xs = [.int i, .int j] ∧ Q (.int (if j < i then j else i)) H) oMin2 := by
  intro φ H μ ws w vs Q c r e k
  unfold oMin2 at e
  split at e
  · rename_i i j
    cases e
    obtain ⟨u, v, rfl, h, h2⟩ := rvs2 r
    cases h
    cases h2
    exact ⟨i, j, rfl, post_here k c rfl⟩
  · cases e
@[simp] def oInt (_ : Mu) (ws : List Vw) : Option Vw := match ws with
  | [.d (.int i)] => some (.d (.int i))
  | [.d (.bool b)] => some (.d (.int (if b then 1 else 0)))
  | _ => none
theorem oInt_ok : OL K (fun xs H Q => (∃ i, xs = [.int i] ∧ Q (.int i) H) ∨ ∃ k, xs = [.bl k] ∧ Q (.int (if k then 1 else 0)) H) oInt := by
  intro φ H μ ws w vs Q c r e k
  unfold oInt at e
  split at e
  · rename_i i
    cases e
    obtain ⟨v, rfl, h⟩ := rvs1 r
    cases h
    exact .inl ⟨i, rfl, post_here k c rfl⟩
  · rename_i b
    cases e
    obtain ⟨v, rfl, h⟩ := rvs1 r
    cases h
    exact .inr ⟨b, rfl, post_here k c rfl⟩
  · cases e
@[simp] def oLen (μ : Mu) (ws : List Vw) : Option Vw := match ws with
  | [.d (.tuple ds)] => some (.d (.int ds.length))
  | [x] => (toL μ x).map fun ds => .d (.int ds.length)
  | _ => none
theorem oLen_ok : OL K (fun xs H Q => ∃ x n, xs = [x] ∧ LenV K x H n ∧ Q (.int n) H) oLen := by
  intro φ H μ ws w vs Q c r e k
  unfold oLen at e
  split at e
  · rename_i ds
    cases e
    obtain ⟨v, rfl, a, xs, e1, h1, h2⟩ := rvs1 r
    subst e1
    exact ⟨_, ds.length, rfl, .inr ⟨xs, h1, h2.len⟩, post_here k c rfl⟩
  · rename_i x hne
    obtain ⟨ds, e1, e2⟩ := Option.map_eq_some_iff.mp e
    cases e2
    obtain ⟨v, rfl, h⟩ := rvs1 r
    obtain ⟨a, xs, e3, h1, h2⟩ := toL_ok c h e1
    subst e3
    exact ⟨_, ds.length, rfl, .inl ⟨xs, h1, h2.len⟩, post_here k c rfl⟩
  · cases e
@[simp] def oGcd (_ : Mu) (ws : List Vw) : Option Vw := match ws with
  | [.d (.int i), .d (.int j)] => some (.d (.int (Nat.gcd i.natAbs j.natAbs : Nat)))
  | _ => none
theorem oGcd_ok : OL K rGcd oGcd := by
  intro φ H μ ws w vs Q c r e k
  unfold oGcd at e
  split at e
  · rename_i i j
    cases e
    obtain ⟨u, v, rfl, h, h2⟩ := rvs2 r
    cases h
    cases h2
    exact ⟨i, j, rfl, post_here k c rfl⟩
  · cases e
@[simp] def oTupleOf (μ : Mu) (ws : List Vw) : Option Vw := match ws with
  | [.d (.tuple ds)] => some (.d (.tuple ds))
  | [x] => (toL μ x).map fun ds => .d (.tuple ds)
  | _ => none
theorem oTupleOf_ok : OL K (fun xs H Q => ∃ p ys, xs = [.ref p] ∧ ((SqL K H p ys ∧ ∀ l, H l = none → Q (.ref l) (upd H l (.tup ys))) ∨ (SqT K H p ys ∧ Q (.ref p) H))) oTupleOf := by
  intro φ H μ ws w vs Q c r e k
  unfold oTupleOf at e
  split at e
  · rename_i ds
    cases e
    obtain ⟨v, rfl, h⟩ := rvs1 r
    obtain ⟨a, xs, e1, h1, h2⟩ := id h
    subst e1
    exact ⟨a, xs, rfl, .inr ⟨h1, post_here k c h⟩⟩
  · rename_i x hne
    obtain ⟨ds, e1, e2⟩ := Option.map_eq_some_iff.mp e
    cases e2
    obtain ⟨v, rfl, h⟩ := rvs1 r
    obtain ⟨a, xs, e3, h1, h2⟩ := toL_ok c h e1
    subst e3
    exact ⟨a, xs, rfl, .inl ⟨h1, new_tup c h2 k⟩⟩
  · cases e
@[simp] def oListOf (μ : Mu) (ws : List Vw) : Option Vw := match ws with
  | [.d (.tuple ds)] => some (.d (.list ds))
  | [x] => (toL μ x).map fun ds => .d (.list ds)
  | _ => none
theorem oListOf_ok : OL K (fun xs H Q => ∃ p ys, xs = [.ref p] ∧ (SqL K H p ys ∨ SqT K H p ys) ∧ ∀ l, H l = none → Q (.ref l) (upd H l (.lst ys))) oListOf := by
  intro φ H μ ws w vs Q c r e k
  unfold oListOf at e
  split at e
  · rename_i ds
    cases e
    obtain ⟨v, rfl, a, xs, e1, h1, h2⟩ := rvs1 r
    subst e1
    exact ⟨a, xs, rfl, .inr h1, new_lst c h2 k⟩
  · rename_i x hne
    obtain ⟨ds, e1, e2⟩ := Option.map_eq_some_iff.mp e
    cases e2
    obtain ⟨v, rfl, h⟩ := rvs1 r
    obtain ⟨a, xs, e3, h1, h2⟩ := toL_ok c h e1
    subst e3
    exact ⟨a, xs, rfl, .inl h1, new_lst c h2 k⟩
  · cases e
/-- a list of bools -/
@[simp] def toB : List PyData → Option (List Bool)
  | [] => some []
  | .bool b :: r => (toB r).map fun q => b :: q
  | _ :: _ => none
theorem toB_da {A : List Addr} {H : Hp} : ∀ {ds : List PyData} {bs : List Bool} {xs : List V}, toB ds = some bs → DaAll K A H ds xs → xs = bs.map V.bl
  | [], _, _, e, h => by cases e; exact h
  | .bool b :: ds, _, _, e, ⟨v, vs, ev, h, hs⟩ => by
    obtain ⟨q, e1, e2⟩ := Option.map_eq_some_iff.mp e
    cases e2
    have hv : v = .bl b := h
    rw [ev, hv, toB_da e1 hs]; rfl
  | .none :: _, _, _, e, _ => by cases e
  | .int _ :: _, _, _, e, _ => by cases e
  | .str _ :: _, _, _, e, _ => by cases e
  | .list _ :: _, _, _, e, _ => by cases e
  | .tuple _ :: _, _, _, e, _ => by cases e
  | .dict _ :: _, _, _, e, _ => by cases e
@[simp] def oAll (μ : Mu) (ws : List Vw) : Option Vw := match ws with
  | [x] => (toL μ x).bind fun ds => (toB ds).map fun bs => .d (.bool (bs.all id))
  | _ => none
@[simp] def oAny (μ : Mu) (ws : List Vw) : Option Vw := match ws with
  | [x] => (toL μ x).bind fun ds => (toB ds).map fun bs => .d (.bool (bs.any id))
  | _ => none
theorem oAll_ok : OL K (rAll K) oAll := by
  intro φ H μ ws w vs Q c r e k
  unfold oAll at e
  split at e
  · rename_i x
    obtain ⟨ds, e1, e⟩ := Option.bind_eq_some_iff.mp e
    obtain ⟨bs, e2, e3⟩ := Option.map_eq_some_iff.mp e
    cases e3
    obtain ⟨v, rfl, h⟩ := rvs1 r
    obtain ⟨a, xs, e3, h1, h2⟩ := toL_ok c h e1
    subst e3
    have := toB_da e2 h2
    subst this
    exact ⟨a, bs, rfl, h1, post_here k c rfl⟩
  · cases e
theorem oAny_ok : OL K (rAny K) oAny := by
  intro φ H μ ws w vs Q c r e k
  unfold oAny at e
  split at e
  · rename_i x
    obtain ⟨ds, e1, e⟩ := Option.bind_eq_some_iff.mp e
    obtain ⟨bs, e2, e3⟩ := Option.map_eq_some_iff.mp e
    cases e3
    obtain ⟨v, rfl, h⟩ := rvs1 r
    obtain ⟨a, xs, e3, h1, h2⟩ := toL_ok c h e1
    subst e3
    have := toB_da e2 h2
    subst this
    exact ⟨a, bs, rfl, h1, post_here k c rfl⟩
  · cases e
/-! ### isinstance -/
@[simp] def tyN : Vw → String
  | .d .none => "NoneType"
  | .d (.bool _) => "bool"
  | .d (.int _) => "int"
  | .d (.str _) => "str"
  | .d (.list _) => "list"
  | .d (.tuple _) => "tuple"
  | .d (.dict _) => "dict"
  | .loc _ => "list"
  | .kl _ => "list"
  | .rg _ _ => ""
@[simp] def isRg : Vw → Bool
  | .rg _ _ => true
  | .d (.dict (_ :: _)) => true
  | _ => false
def tyNs : List String := ["NoneType", "bool", "int", "str", "list", "tuple", "dict"]
def isaB (a T : String) : Bool := decide (a = T) || (decide (a = "bool") && decide (T = "int"))
@[simp] def eIsi (T : String) (f : EF) (ρ : Rho) (μ : Mu) : Option (Vw × Mu) := match f ρ μ with
  | some (w, μ1) => if isRg w = true then none else some (.d (.bool (isaB (tyN w) T)), μ1)
  | none => none
theorem tyN_mem (w : Vw) (hr : ¬ isRg w = true) : tyN w ∈ tyNs := by
  cases w with
  | rg lo hi => exact absurd rfl hr
  | d p => cases p <;> simp [tyN, tyNs]
  | loc n => simp [tyN, tyNs]
  | kl n => simp [tyN, tyNs]
theorem tyN_ok {φ : Ph} {H : Hp} {μ : Mu} {w : Vw} {v : V} (c : Cells K φ H μ) (r : RV K φ H w v) (hr : ¬ isRg w = true) : TyX K H v (.type (tyN w)) := by
  have tup : ∀ {a : Addr} {xs : List V}, SqT K H a xs → TyX K H (.ref a) (.type "tuple") := fun {a xs} h => by
    rcases h with (h | ⟨o, h⟩) | ⟨o, its, n, h1, h2, _⟩
    · exact .base (.tup h)
    · exact .fTuple h
    · exact .kTuple h1 h2
  cases w with
  | rg lo hi => exact absurd rfl hr
  | d p =>
    cases p with
    | none => cases r; exact .base .non
    | bool b => cases r; exact .base (.bl b)
    | int i => cases r; exact .base (.int i)
    | str x => cases r; exact .base (.str x)
    | list ds => obtain ⟨a, xs, e, _, h, _⟩ := r; subst e; exact .base (.lst h)
    | tuple ds => obtain ⟨a, xs, e, h, _⟩ := r; subst e; exact tup h
    | dict kvs =>
      rcases r with ⟨_, a, e, _, h⟩ | ⟨x, e, _⟩
      · subst e; exact .base (.dK h)
      · subst e; exact absurd rfl hr
  | loc n =>
    obtain ⟨a, h1, e⟩ := r
    subst e
    obtain ⟨xs, h⟩ := c.mem (List.mem_of_getElem? h1)
    exact .base (.lst h)
  | kl ns =>
    obtain ⟨a, e, h⟩ := r
    subst e
    rcases h with ⟨o, h⟩ | ⟨_, h⟩ | ⟨o, its, n, h1, h2, _⟩
    · exact .base (.frz h)
    · exact .base (.lst h)
    · exact .kList h1 h2
theorem ej_isi {X : Cx} (T : String) {x : Str} {e : Expr} {f : EF} {p p2 pos : Pos} (hk : ∀ a ∈ tyNs, kitB a T = some (isaB a T)) (hm : X.mg "isinstance" = none) (hm2 : X.mg x = none) (he : PE X e (tE X.K f)) (hv2 : bootBuiltins x = some (.type T)) (hg : Gl X "isinstance" := by rfl) (hg2 : Gl X x := by rfl)
    (hn2 : x ≠ "__name__" := by decide) (hd2 : (x == ("__debug__" : Str)) = false := by decide) (hs1 : starEach [e, .Name x p2] X.env = (false, eval e X.env) :: starEach [.Name x p2] X.env := by rfl) (hs2 : starEach [.Name x p2] X.env = (false, eval (.Name x p2) X.env) :: starEach [] X.env := by rfl)
    (hpl : (backTo pos (starEach [.Name x p2] X.env)).any (·.1) = false := by rfl) : PE X (.Call (.Name "isinstance" p) [e, .Name x p2] [] pos) (tE X.K (eIsi T f)) :=
  PE.to (pe_callB call_isi hg hm (by decide +kernel) (pa_cons he (pa_cons (pe_bltn (v := .ty T) hg2 hm2 hv2 rfl hn2 hd2) pa_nil hs2) hs1) (by decide) (by decide) hs1 hpl) fun σ H Q ⟨φ, ρ, μ, w, μ', rs, e, k⟩ => by
  unfold eIsi at e
  split at e
  · rename_i z μ1 e1
    split at e
    · cases e
    · rename_i hr
      cases e
      exact ⟨φ, ρ, μ, z, _, rs, e1, fun φ1 v H1 g1 c1 r1 => ⟨v, .ty T, _, _, _, rfl, .ty T, tyN_ok c1 r1 hr, kit_ty (hk _ (tyN_mem z hr)), k φ1 _ H1 g1 c1 rfl⟩⟩
  · cases e
end
end VL
end
section
set_option Elab.async false
set_option linter.all false
set_option maxRecDepth 100000
namespace VL
open PySem PySem.Spec PyProof.Rows L2
variable [LawTabs]
/-! ### truth -/
@[simp] def tru (μ : Mu) : Vw → Option Bool
  | .d .none => some false
  | .d (.bool b) => some b
  | .d (.int i) => some (i != 0)
  | .d (.tuple ds) => some (!ds.isEmpty)
  | .d (.list ds) => some (!ds.isEmpty)
  | .loc n => (μ[n]?).map fun ds => !ds.isEmpty
  | .kl ns => some (!ns.isEmpty)
  | _ => none
theorem emp_da {K : PySem.W.Frag} {A : List Addr} {H : Hp} {ds : List PyData} {xs : List V} (h : DaAll K A H ds xs) : ds.isEmpty = xs.isEmpty := by
  have := h.len
  cases ds <;> cases xs <;> first | rfl | simp at this
theorem tru_V {K : PySem.W.Frag} {φ : Ph} {H : Hp} {μ : Mu} {w : Vw} {v : V} {b : Bool} (c : Cells K φ H μ) (r : RV K φ H w v) (e : tru μ w = some b) : TruV K v H b := by
  cases w with
  | rg lo hi => cases e
  | d p =>
    cases p with
    | none => cases e; cases r; rfl
    | bool b => cases e; cases r; rfl
    | int i => cases e; cases r; rfl
    | str x => cases e
    | list ds => cases e; obtain ⟨a, xs, e, _, h, hs⟩ := r; subst e; exact .inl ⟨xs, SqL.of h, by rw [emp_da hs]⟩
    | tuple ds => cases e; obtain ⟨a, xs, e, h, hs⟩ := r; subst e; exact .inr (.inl ⟨xs, h, by rw [emp_da hs]⟩)
    | dict kvs => cases e
  | loc n =>
    obtain ⟨ds, e1, e2⟩ := Option.map_eq_some_iff.mp e
    cases e2
    obtain ⟨a, h1, e⟩ := r
    subst e
    obtain ⟨xs, h, hs⟩ := c.at_ n a ds h1 e1
    exact .inl ⟨xs, SqL.of h, by rw [emp_da hs]⟩
  | kl ns =>
    cases e
    obtain ⟨a, e, h⟩ := r
    subst e
    exact .inl ⟨_, h.sq, by cases ns <;> rfl⟩
@[simp] def bTru (f : EF) (ρ : Rho) (μ : Mu) : Option (Bool × Mu) := match f ρ μ with
  | some (w, μ1) => (tru μ1 w).map fun b => (b, μ1)
  | none => none
theorem tj_tru {X : Cx} {a : Expr} {f : EF} (ha : PE X a (tE X.K f)) (he : ∀ whole, isTrue a X.env whole = (do let v ← whole; standAt a.pos; holding [v] (truthy v)) := by intro _; rfl) : PT X a (tT X.K (bTru f)) := PT.to (pt_truth ha he) fun σ H Q ⟨φ, ρ, μ, b, μ', rs, e, k⟩ => by
  unfold bTru at e
  split at e
  · rename_i w μ1 e1
    obtain ⟨c, e2, e3⟩ := Option.map_eq_some_iff.mp e
    cases e3
    exact ⟨φ, ρ, μ, w, _, rs, e1, fun φ1 v H1 g1 c1 r1 => ⟨_, tru_V c1 r1 e2, k φ1 H1 g1 c1⟩⟩
  · cases e
@[simp] def eNotT (f : EF) (ρ : Rho) (μ : Mu) : Option (Vw × Mu) := match f ρ μ with
  | some (w, μ1) => (tru μ1 w).map fun b => (.d (.bool (!b)), μ1)
  | none => none
theorem ej_notT {X : Cx} {a : Expr} {pos : Pos} {f : EF} (ha : PE X a (tE X.K f)) : PE X (.UnaryOp .Not a pos) (tE X.K (eNotT f)) := PE.to (pe_notT ha) fun σ H Q ⟨φ, ρ, μ, w, μ', rs, e, k⟩ => by
  unfold eNotT at e
  split at e
  · rename_i z μ1 e1
    obtain ⟨c, e2, e3⟩ := Option.map_eq_some_iff.mp e
    cases e3
    exact ⟨φ, ρ, μ, z, _, rs, e1, fun φ1 v H1 g1 c1 r1 => ⟨_, tru_V c1 r1 e2, k φ1 _ H1 g1 c1 rfl⟩⟩
  · cases e
/-! ### slices -/
def cutD (xs : List PyData) (lo hi : Option Int) : List PyData := (xs.drop (HT.sIx xs.length 0 lo)).take (HT.sIx xs.length xs.length hi - HT.sIx xs.length 0 lo)
theorem cut_da {K : PySem.W.Frag} {A : List Addr} {H : Hp} {ds : List PyData} {xs : List V} {lo hi : Option Int} (h : DaAll K A H ds xs) : DaAll K A H (cutD ds lo hi) (cutV xs lo hi) := by
  unfold cutD cutV
  rw [h.len]
  exact DaAll.take _ (DaAll.drop _ h)
/-- a part of a slice -/
abbrev OF := Rho → Mu → Option (Option Int × Mu)
@[simp] def oNo (_ : Rho) (μ : Mu) : Option (Option Int × Mu) := some (none, μ)
@[simp] def oYes (f : EF) (ρ : Rho) (μ : Mu) : Option (Option Int × Mu) := match f ρ μ with
  | some (.d (.int i), μ1) => some (some i, μ1)
  | _ => none
def tO (K : PySem.W.Frag) (f : OF) : TO := fun σ H Q => ∃ φ ρ μ o μ', RS K φ σ H ρ μ ∧ f ρ μ = some (o, μ') ∧ ∀ φ' H', Grow φ φ' H H' → Cells K φ' H' μ' → Q o H'
theorem PO.to {X : Cx} {e : Option Expr} {t u : TO} (h : PO X e t) (k : ∀ σ H Q, u σ H Q → t σ H Q) : PO X e u := ⟨fun pins s σ H Q I q => h.run pins s σ H Q I (k σ H Q q)⟩
theorem oj_no {X : Cx} : PO X none (tO X.K oNo) := PO.to po_none fun σ H Q ⟨φ, ρ, μ, o, μ', rs, e, k⟩ => by
  cases e
  exact k φ H (.refl _ _) rs.c
theorem oj_yes {X : Cx} {e : Expr} {f : EF} (h : PE X e (tE X.K f)) : PO X (some e) (tO X.K (oYes f)) := PO.to (po_some h) fun σ H Q ⟨φ, ρ, μ, o, μ', rs, e, k⟩ => by
  unfold oYes at e
  split at e
  · rename_i i μ1 e1
    cases e
    exact ⟨φ, ρ, μ, _, _, rs, e1, fun φ1 v H1 g1 c1 r1 => ⟨i, r1, k φ1 H1 g1 c1⟩⟩
  · cases e
@[simp] def oSl (μ : Mu) (x : Vw) (lo hi : Option Int) : Option Vw := match x with
  | .d (.tuple ds) => some (.d (.tuple (cutD ds lo hi)))
  | x => (toL μ x).map fun ds => .d (.list (cutD ds lo hi))
@[simp] def eSl (f : EF) (g h : OF) (ρ : Rho) (μ : Mu) : Option (Vw × Mu) := match f ρ μ with
  | some (x, μ1) => (match g ρ μ1 with
    | some (lo, μ2) => (match h ρ μ2 with
      | some (hi, μ3) => (oSl μ3 x lo hi).map fun z => (z, μ3)
      | none => none)
    | none => none)
  | none => none
theorem ej_sl {X : Cx} {a : Expr} {lo hi : Option Expr} {p2 pos : Pos} {f : EF} {g h : OF} (ha : PE X a (tE X.K f)) (hl : PO X lo (tO X.K g)) (hh : PO X hi (tO X.K h)) : PE X (.Subscript a (.Slice lo hi none p2) pos) (tE X.K (eSl f g h)) :=
  PE.to (pe_slice (SlR.or sl_list sl_tupA) ha hl hh) fun σ H Q ⟨φ, ρ, μ, w, μ', rs, e, k⟩ => by
  unfold eSl at e
  split at e
  · rename_i x μ1 e1
    refine ⟨φ, ρ, μ, x, μ1, rs, e1, fun φ1 v H1 g1 c1 r1 => ?_⟩
    split at e
    · rename_i l μ2 e2
      have rs1 := rs.step g1 c1
      refine ⟨φ1, ρ, μ1, l, μ2, rs1, e2, fun φ2 H2 g2 c2 => ?_⟩
      split at e
      · rename_i u μ3 e3
        refine ⟨φ2, ρ, μ2, u, μ3, rs1.step g2 c2, e3, fun φ3 H3 g3 c3 => ?_⟩
        obtain ⟨z, e4, e5⟩ := Option.map_eq_some_iff.mp e
        cases e5
        have r3 := RV.step (g2.trans g3).w _ _ r1
        have gg := (g1.trans g2).trans g3
        unfold oSl at e4
        split at e4
        · rename_i ds
          cases e4
          obtain ⟨a, xs, q1, h1, h2⟩ := id r3
          subst q1
          refine .inr ⟨a, xs, rfl, h1, fun z => ?_, fun _ => new_tup c3 (cut_da h2) fun φ4 v4 H4 g4 c4 r4 => k φ4 v4 H4 (gg.trans g4) c4 r4⟩
          refine k φ3 _ H3 gg c3 ?_
          have e6 : cutD ds l u = ds := by
            unfold cutD
            rw [h2.len, z.1, z.2, List.drop_zero, Nat.sub_zero, ← h2.len, List.take_length]
          rw [e6]
          exact r3
        · rename_i hne
          obtain ⟨ds, e5, e6⟩ := Option.map_eq_some_iff.mp e4
          cases e6
          obtain ⟨a, xs, q1, h1, h2⟩ := toL_ok c3 r3 e5
          subst q1
          exact .inl ⟨a, xs, rfl, h1, new_lst c3 (cut_da h2) fun φ4 v4 H4 g4 c4 r4 => k φ4 v4 H4 (gg.trans g4) c4 r4⟩
      · cases e
    · cases e
  · cases e
/-! ### reversed, zip, enumerate -/
/-- what stays walkable: a tuple, a list (data, of the number n) -/
def seqT : Vw → Option (List PyData)
  | .d (.tuple ds) => some ds
  | _ => none
@[simp] def seqL (μ : Mu) : Vw → Option (List PyData × Option Nat)
  | .d (.list ds) => some (ds, none)
  | .loc n => (μ[n]?).map fun ds => (ds, some n)
  | .kl ns => some (ns.map PyData.int, none)
  | _ => none
theorem seqL_ok {K : PySem.W.Frag} {φ : Ph} {H : Hp} {μ : Mu} {w : Vw} {v : V} {ds : List PyData} {src : Option Nat} (c : Cells K φ H μ) (r : RV K φ H w v) (e : seqL μ w = some (ds, src)) : ∃ a, v = .ref a ∧ ∀ φ' H' μ', GrowW φ φ' H H' → Cells K φ' H' μ' → (∀ n, src = some n → μ'[n]? = some ds) → ∃ xs, SqL K H' a xs ∧ DaAll K φ'.av H' ds xs := by
  cases w with
  | rg lo hi => cases e
  | d p =>
    cases p with
    | list es =>
      cases e
      obtain ⟨a, xs, e1, h⟩ := id r
      refine ⟨a, e1, fun φ' H' μ' g c' _ => ?_⟩
      obtain ⟨b, ys, e2, _, h1, h2⟩ := Da.step g (.list _) v r
      rw [e1] at e2; cases e2
      exact ⟨ys, SqL.of h1, h2⟩
    | _ => cases e
  | loc n =>
    obtain ⟨es, e1, e2⟩ := Option.map_eq_some_iff.mp e
    cases e2
    obtain ⟨a, h1, h2⟩ := id r
    refine ⟨a, h2, fun φ' H' μ' g c' hs => ?_⟩
    obtain ⟨b, h3, h4⟩ := RV.step g _ _ r
    rw [h2] at h4; cases h4
    obtain ⟨xs, h5, h6⟩ := c'.at_ n a ds h3 (hs n rfl)
    exact ⟨xs, SqL.of h5, h6⟩
  | kl ns =>
    cases e
    obtain ⟨a, h1, h2⟩ := r
    exact ⟨a, h1, fun φ' H' μ' g c' _ => ⟨_, (g.kl h2).sq, DaAll.ints ns⟩⟩
@[simp] def iRev (f : EF) (ρ : Rho) (μ : Mu) : Option (List PyData × Option Nat × Mu) := match f ρ μ with
  | some (.d (.tuple ds), μ1) => some (ds.reverse, none, μ1)
  | some (.d (.list ds), μ1) => some (ds.reverse, none, μ1)
  | _ => none
theorem rev_get {ds : List PyData} {i : Nat} {d : PyData} (e : ds.reverse[i]? = some d) : i < ds.length ∧ ds[ds.length - 1 - i]? = some d := by
  have hl : i < ds.length := by
    have := (List.getElem?_eq_some_iff.mp e).1
    simpa using this
  rw [List.getElem?_reverse hl] at e
  exact ⟨hl, e⟩
theorem ij_rev {X : Cx} {tg e : Expr} {f : EF} {p pos : Pos} (hm : X.mg "reversed" = none) (he : PE X e (tE X.K f)) (hg : Gl X "reversed" := by rfl) (hs : starEach [e] X.env = (false, eval e X.env) :: starEach [] X.env := by rfl) : PI X tg (.Call (.Name "reversed" p) [e] [] pos) (tI X.K (iRev f)) :=
  PI.to (RT.pi_revA hg hm he hs) fun σ H R ⟨φ, ρ, μ, ds, src, μ', rs, e, k⟩ => by
  unfold iRev at e
  split at e
  · rename_i es μ1 e1
    cases e
    refine ⟨φ, ρ, μ, _, _, rs, e1, fun φ1 v H1 g1 c1 r1 => ?_⟩
    obtain ⟨a, xs, e2, h1, h2⟩ := r1
    refine ⟨a, xs, e2, .inr ⟨h1, k φ1 _ H1 g1 c1 fun φ' H' μ2 g c _ i => ?_⟩⟩
    have h1' := g.sqT h1
    have h2' := DaAll.step g _ _ h2
    refine ⟨fun d e => ?_, fun hl => by
      show xs.length ≤ i
      rw [List.length_reverse] at hl
      rw [← h2.len]; exact hl⟩
    obtain ⟨hl, e3⟩ := rev_get e
    obtain ⟨z, e4, e5⟩ := h2'.get e3
    rw [h2.len] at e4
    refine ⟨⟨by rw [← h2.len]; exact hl, xs, z, h1', e4⟩, fun x H'' hy => ?_⟩
    obtain ⟨rfl, hy⟩ := hy
    have := hy xs h1'
    rw [e4] at this; cases this
    exact ⟨.refl _ _, c, e5⟩
  · rename_i es μ1 e1
    cases e
    refine ⟨φ, ρ, μ, _, _, rs, e1, fun φ1 v H1 g1 c1 r1 => ?_⟩
    obtain ⟨a, xs, e2, hn, h1, h2⟩ := id r1
    refine ⟨a, xs, e2, .inl ⟨SqL.of h1, k φ1 _ H1 g1 c1 fun φ' H' μ2 g c _ i => ?_⟩⟩
    obtain ⟨b, ys, e3, _, h1', h2'⟩ := Da.step g (.list es) v r1
    rw [e2] at e3; cases e3
    have ll : xs.length = ys.length := by rw [← h2.len, h2'.len]
    refine ⟨fun d e => ?_, fun hl => by
      show xs.length ≤ i
      rw [List.length_reverse] at hl
      rw [← h2.len]; exact hl⟩
    obtain ⟨hl, e3⟩ := rev_get e
    obtain ⟨z, e4, e5⟩ := h2'.get e3
    rw [h2.len] at e4
    refine ⟨⟨by rw [← h2.len]; exact hl, ys, z, SqL.of h1', e4⟩, fun x H'' hy => ?_⟩
    obtain ⟨rfl, hy⟩ := hy
    have := hy ys (SqL.of h1')
    rw [e4] at this; cases this
    exact ⟨.refl _ _, c, e5⟩
  · cases e
def zipD (xs ys : List PyData) : List PyData := (xs.zip ys).map fun p => .tuple [p.1, p.2]
theorem zipD_get {xs ys : List PyData} {i : Nat} {d : PyData} (e : (zipD xs ys)[i]? = some d) : ∃ x y, xs[i]? = some x ∧ ys[i]? = some y ∧ d = .tuple [x, y] := by
  unfold zipD at e
  rw [List.getElem?_map] at e
  obtain ⟨⟨x, y⟩, e1, e2⟩ := Option.map_eq_some_iff.mp e
  obtain ⟨h1, h2⟩ := List.getElem?_zip_eq_some.mp e1
  exact ⟨x, y, h1, h2, e2.symm⟩
theorem zipD_end {xs ys : List PyData} {i : Nat} (e : (zipD xs ys).length ≤ i) : xs.length ≤ i ∨ ys.length ≤ i := by
  unfold zipD at e
  rw [List.length_map, List.length_zip] at e
  omega
/-- zip of two tuples, of two lists of data -/
@[simp] def iZip (f g : EF) (ρ : Rho) (μ : Mu) : Option (List PyData × Option Nat × Mu) := match f ρ μ with
  | some (x, μ1) => (match g ρ μ1 with
    | some (y, μ2) => (match x, y with
      | .d (.tuple xs), .d (.tuple ys) => some (zipD xs ys, none, μ2)
      | .d (.list xs), .d (.list ys) => some (zipD xs ys, none, μ2)
      | _, _ => none)
    | none => none)
  | none => none
theorem pair_da {K : PySem.W.Frag} {φ : Ph} {H : Hp} {T : Addr} {x y : V} {d e : PyData} (hT : H T = none) (h1 : Da K φ.av H d x) (h2 : Da K φ.av H e y) : Da K φ.av (upd H T (.tup [x, y])) (.tuple [d, e]) (.ref T) :=
  ⟨T, [x, y], rfl, SqT.of upd_same, x, [y], rfl, Da.step (Grow.laid hT).w _ _ h1, y, [], rfl, Da.step (Grow.laid hT).w _ _ h2, rfl⟩
theorem ij_zip {X : Cx} {e e2 : Expr} {elts : List Expr} {kk : Nat} {f g : EF} {p pos tpos : Pos} (hm : X.mg "zip" = none) (he : PE X e (tE X.K f)) (he2 : PE X e2 (tE X.K g)) (hg : Gl X "zip" := by rfl)
    (hs : starEach [e, e2] X.env = (false, eval e X.env) :: starEach [e2] X.env := by rfl) (hs2 : starEach [e2] X.env = (false, eval e2 X.env) :: starEach [] X.env := by rfl) (hpl : (backTo pos (starEach [e2] X.env)).any (·.1) = false := by rfl) : PI X (.Tuple elts kk tpos) (.Call (.Name "zip" p) [e, e2] [] pos) (tI X.K (iZip f g)) :=
  PI.to (RZ.pi_zipA hg hm (aj_cons he (aj_cons he2 aj_nil hs2) hs) hs hpl) fun σ H R ⟨φ, ρ, μ, ds, src, μ', rs, e, k⟩ => by
  unfold iZip at e
  split at e
  · rename_i x μ1 e1
    split at e
    · rename_i y μ2 e2
      have ea : aCons f (aCons g aNil) ρ μ = some ([x, y], μ2) := by simp only [aCons, aNil, e1, e2]; rfl
      split at e
      · rename_i xs ys
        cases e
        refine ⟨φ, ρ, μ, _, _, rs, ea, fun φ1 vs H1 g1 c1 r1 => ?_⟩
        obtain ⟨u, v, rfl, ⟨a, us, q1, h1, s1⟩, ⟨b, vs, q2, h2, s2⟩⟩ := rvs2 r1
        subst q1 q2
        refine ⟨a, b, us, vs, rfl, .inr ⟨h1, h2, k φ1 _ H1 g1 c1 fun φ' H' μ2 g c _ i => ?_⟩⟩
        have h1' := g.sqT h1
        have h2' := g.sqT h2
        have s1' := DaAll.step g _ _ s1
        have s2' := DaAll.step g _ _ s2
        refine ⟨fun d e => ?_, fun hl => ⟨us, vs, h1', h2', by rw [← s1.len, ← s2.len]; exact zipD_end hl⟩⟩
        obtain ⟨d1, d2, e3, e4, rfl⟩ := zipD_get e
        obtain ⟨z1, e5, e6⟩ := s1'.get e3
        obtain ⟨z2, e7, e8⟩ := s2'.get e4
        refine ⟨⟨us, vs, z1, z2, h1', h2', e5, e7⟩, fun x H'' hy => ?_⟩
        obtain ⟨T, x1, x2, rfl, hT, rfl, q1, q2⟩ := hy
        have w1 := q1 us h1'
        have w2 := q2 vs h2'
        rw [e5] at w1; cases w1
        rw [e7] at w2; cases w2
        exact ⟨Grow.laid hT, c.laid hT, pair_da hT e6 e8⟩
      · rename_i xs ys
        cases e
        refine ⟨φ, ρ, μ, _, _, rs, ea, fun φ1 vs H1 g1 c1 r1 => ?_⟩
        obtain ⟨u, v, rfl, q1, q2⟩ := rvs2 r1
        obtain ⟨a, us, q3, _, h1, s1⟩ := id q1
        obtain ⟨b, vs, q4, _, h2, s2⟩ := id q2
        subst q3 q4
        refine ⟨a, b, us, vs, rfl, .inl ⟨SqL.of h1, SqL.of h2, k φ1 _ H1 g1 c1 fun φ' H' μ2 g c _ i => ?_⟩⟩
        obtain ⟨a', us', q3, _, h1', s1'⟩ := Da.step g (.list xs) _ q1
        obtain ⟨b', vs', q4, _, h2', s2'⟩ := Da.step g (.list ys) _ q2
        cases q3
        cases q4
        refine ⟨fun d e => ?_, fun hl => ⟨us', vs', SqL.of h1', SqL.of h2', by rw [← s1'.len, ← s2'.len]; exact zipD_end hl⟩⟩
        obtain ⟨d1, d2, e3, e4, rfl⟩ := zipD_get e
        obtain ⟨z1, e5, e6⟩ := s1'.get e3
        obtain ⟨z2, e7, e8⟩ := s2'.get e4
        refine ⟨⟨us', vs', z1, z2, SqL.of h1', SqL.of h2', e5, e7⟩, fun x H'' hy => ?_⟩
        obtain ⟨T, x1, x2, rfl, hT, rfl, q1, q2⟩ := hy
        have w1 := q1 us' (SqL.of h1')
        have w2 := q2 vs' (SqL.of h2')
        rw [e5] at w1; cases w1
        rw [e7] at w2; cases w2
        exact ⟨Grow.laid hT, c.laid hT, pair_da hT e6 e8⟩
      · cases e
    · cases e
  · cases e
/-! ### texts of ints and bools -/
@[simp] def oStr (_ : Mu) (ws : List Vw) : Option Vw := match ws with
  | [.d (.int i)] => if i.natAbs.log2 < 1920 then some (.d (.str (toString i))) else none
  | _ => none
theorem oStr_ok {K : PySem.W.Frag} : OL K (fun xs H Q => ∃ i, xs = [.int i] ∧ i.natAbs.log2 < 1920 ∧ Q (.str (toString i)) H) oStr := by
  intro φ H μ ws w vs Q c r e k
  unfold oStr at e
  split at e
  · rename_i i
    split at e
    · rename_i hi
      cases e
      obtain ⟨v, rfl, h⟩ := rvs1 r
      cases h
      exact ⟨i, rfl, hi, post_here k c rfl⟩
    · cases e
  · cases e
@[simp] def oRepr (_ : Mu) (ws : List Vw) : Option Vw := match ws with
  | [.d (.bool b)] => some (.d (.str (if b then "True" else "False")))
  | [.d .none] => some (.d (.str "None"))
  | [.d (.int i)] => if i.natAbs.log2 < 1920 then some (.d (.str (toString i))) else none
  | _ => none
def rReprV : List V → Hp → VK → Prop := fun xs H Q => (∃ b, xs = [.bl b] ∧ Q (.str (if b then "True" else "False")) H) ∨ (xs = [.non] ∧ Q (.str "None") H) ∨ (∃ i, xs = [.int i] ∧ i.natAbs.log2 < 1920 ∧ Q (.str (toString i)) H)
theorem call_reprV {X : Cx} : CallR X (.builtin "repr") rReprV := by
  intro pins s σ H xs us Q I r h
  rcases h with ⟨b, rfl, q⟩ | ⟨rfl, q⟩ | ⟨i, rfl, hi, q⟩
  · cases r with
    | cons r rr =>
      cases rr
      cases r
      exact PySem.P.repr_of_bool ⟨.str _, H, I.tok _, ⟨_, rfl⟩, q⟩
  · cases r with
    | cons r rr =>
      cases rr
      cases r
      exact PySem.P.repr_of_none ⟨.str _, H, I.tok _, ⟨_, rfl⟩, q⟩
  · exact SkE.call_repr_int pins s σ H _ us Q I r ⟨i, rfl, hi, q⟩
theorem oRepr_ok {K : PySem.W.Frag} : OL K rReprV oRepr := by
  intro φ H μ ws w vs Q c r e k
  unfold oRepr at e
  split at e
  · rename_i b
    cases e
    obtain ⟨v, rfl, h⟩ := rvs1 r
    cases h
    exact .inl ⟨b, rfl, post_here k c rfl⟩
  · cases e
    obtain ⟨v, rfl, h⟩ := rvs1 r
    cases h
    exact .inr (.inl ⟨rfl, post_here k c rfl⟩)
  · rename_i i
    split at e
    · rename_i hi
      cases e
      obtain ⟨v, rfl, h⟩ := rvs1 r
      cases h
      exact .inr (.inr ⟨i, rfl, hi, post_here k c rfl⟩)
    · cases e
  · cases e
/-! ### short words for the text's makers -/
theorem hu200 {k : Nat} {A : Around} (hr : Room k A) : A.units + 200 < cLine := by have := hr.un; omega
section
variable {X : Cx} {pos : Pos} {K : PySem.W.Frag}
theorem qLt : O2 K (rI0 fun i j => .bl (decide (i < j))) oLt := iiO_ok0 fun _ _ _ _ => rfl
theorem qLe : O2 K (rI0 fun i j => .bl (decide (i ≤ j))) oLe := iiO_ok0 fun _ _ _ _ => rfl
theorem qGt : O2 K (rI0 fun i j => .bl (decide (j < i))) oGt := iiO_ok0 fun _ _ _ _ => rfl
theorem qGe : O2 K (rI0 fun i j => .bl (decide (j ≤ i))) oGe := iiO_ok0 fun _ _ _ _ => rfl
/-- an empty dict -/
theorem ej_dict0 : PE X (.Dict [] [] pos) (tE X.K (eC (.dict []))) := PE.to pe_dnewK fun σ H Q ⟨φ, ρ, μ, w, μ', rs, e, k⟩ => by
  cases e
  exact fun p hp => k φ _ _ (Grow.laid hp) (rs.c.laid hp) (.inl ⟨rfl, p, rfl, rs.c.notin hp, upd_same⟩)
end
end VL
namespace VL
open PySem PySem.Spec PyProof.Rows L2
variable [LawTabs]
/-- more turns than any loop here takes -/
def FUEL : Nat := 2 ^ 20000
@[simp] def sBk (ρ : Rho) (μ : Mu) : Option SR := some (.bk ρ μ)
@[simp] def sCt (ρ : Rho) (μ : Mu) : Option SR := some (.ct ρ μ)
theorem sj_break {X : Cx} {pos : Pos} : PS X (.Break pos) (tS X.K sBk) := PS.to ps_break fun D σ H ⟨φ, ρ, μ, rs, k⟩ => k φ σ H (.refl _ _) rs
theorem sj_cont {X : Cx} {pos : Pos} : PS X (.Continue pos) (tS X.K sCt) := PS.to ps_continue fun D σ H ⟨φ, ρ, μ, rs, k⟩ => k φ σ H (.refl _ _) rs
end VL
namespace VL
open PySem PySem.Spec PyProof.Rows L2
variable [LawTabs]
/-- the law's call, behind the top -/
theorem law_start {K : PySem.W.Frag} {m : FM} {H : Hp} {a : Addr} {ns : List Int} {μ' : Mu} (hT : LamX.Tabs (LawTabs.T K) H) (hS : SqL K H a (ns.map V.int)) (e : m [] [.kl ns] = some (.d (.bool true), μ')) : spM K 1 m [.ref a] H (fun v _ => v = .bl true) fun _ _ _ => False := by
  refine ⟨([], []), [], [.kl ns], .d (.bool true), μ', ⟨List.nodup_nil, rfl, fun n a ds h _ => by simp at h, (fun a h => by cases h), hT⟩, ⟨.ref a, [], rfl, ⟨a, rfl, ?_⟩, rfl⟩, rfl, e, fun φ' v H' g c r => r⟩
  rcases hS with (h | ⟨o, h⟩) | h
  · exact .inr (.inl ⟨by simp [Ph.av], h⟩)
  · exact .inl ⟨o, h⟩
  · exact .inr (.inr h)
end VL
end
section
set_option Elab.async false
set_option linter.all false
set_option maxRecDepth 100000
namespace VL
open PySem PySem.Spec PyProof.Rows L2 HT PyProof
variable [LawTabs]
/-! ### lists of whole numbers -/
@[simp] def toI : List PyData → Option (List Int)
  | [] => some []
  | .int i :: ds => (toI ds).map (i :: ·)
  | _ :: _ => none
theorem toI_da {K : PySem.W.Frag} {A : List Addr} {H : Hp} : ∀ {ds : List PyData} {ns : List Int} {xs : List V}, toI ds = some ns → DaAll K A H ds xs → xs = ns.map V.int
  | [], _, _, e, h => by cases e; exact h
  | d :: ds, _, _, e, ⟨v, vs, ex, h, hs⟩ => by
    cases d with
    | int i =>
      obtain ⟨ms, e1, e2⟩ := Option.map_eq_some_iff.mp e
      subst e2 ex
      rw [toI_da e1 hs]
      cases h
      rfl
    | _ => cases e
theorem reads_ints {h : Heap} : ∀ {ns : List Int} {its : List Value}, Vals (ns.map V.int) its → ReadsAll h its (ns.map PyData.int) []
  | [], _, r => by cases r; exact .nil
  | n :: ns, _, r => by
    cases r with
    | cons r1 r2 =>
      obtain ⟨t, e⟩ := r1
      subst e
      exact ReadsAll.cons (as := []) (bs := []) (.int n t) (reads_ints r2)
theorem alike_ints (ns : List Int) : PySem.W.AlikeAll (ns.map PyData.int) := by
  constructor
  · intro x hx y hy
    obtain ⟨i, _, rfl⟩ := List.mem_map.mp hx
    obtain ⟨j, _, rfl⟩ := List.mem_map.mp hy
    rfl
  · intro x hx
    obtain ⟨i, _, rfl⟩ := List.mem_map.mp hx
    intro z; cases z
theorem depth_ints : ∀ ns : List Int, PyData.depthAll (ns.map PyData.int) ≤ 1
  | [] => by simp [PyData.depthAll]
  | n :: ns => by
    have := depth_ints ns
    rw [List.map_cons, PyData.depthAll, PyData.depth]
    omega
def rMaxV (K : PySem.W.Frag) : List V → Hp → VK → Prop := fun xs H Q => ∃ a n ns, xs = [V.ref a] ∧ (SqL K H a ((n :: ns).map V.int) ∨ SqT K H a ((n :: ns).map V.int)) ∧ Q (.int (ns.foldl max n)) H
theorem cr_maxV {X : Cx} (hc : X.calm = true) (hu : X.A.units + 200 < cLine) : CallR X (.builtin "max") (rMaxV X.K) := by
  intro pins s σ H vs us Q I r h
  obtain ⟨a, n, ns, rfl, hs, q⟩ := h
  rw [Vals.ref1 r]
  have hd := depth_ints (n :: ns)
  have fin : ∀ {its : List Value} (rv : Vals ((n :: ns).map V.int) its) (i : Nat) v h' tk bs, its.toArray[i]? = some v → Reads h' v (PySem.W.maxD (.int n) (ns.map .int)) bs → (∀ b o, s.heap.get? b = some o → h'.get? b = some o) → EP X pins σ Q v { s with heap := h', toks := tk } := fun rv i v h' tk bs _ hr hk => by
    rw [PySem.W.maxD_ints] at hr
    cases hr
    exact ⟨.int _, H, I.kept hk, ⟨_, rfl⟩, q⟩
  rcases hs with hs | hs
  · obtain ⟨its, rv, hl, _⟩ := I.list hs
    exact PySem.W.max_list_data (as := []) (I.ok.hd hc) hl.isList (x := .int n) (xs := ns.map .int) (reads_ints (ns := n :: ns) (by simpa using rv)) (alike_ints (n :: ns)) (by rw [List.map_cons] at hd; omega) (fin rv)
  · obtain ⟨its, rv, hl, _⟩ := I.tuple hs
    exact PySem.W.max_tuple_data (as := []) (I.ok.hd hc) (show s.heap.IsTuple a its.toArray from hl) (x := .int n) (xs := ns.map .int) (reads_ints (ns := n :: ns) (by simpa using rv)) (alike_ints (n :: ns)) (by rw [List.map_cons] at hd; omega) (fin rv)
def toLT (μ : Mu) (w : Vw) : Option (List PyData) := match w with
  | .d (.tuple ds) => some ds
  | w => toL μ w
@[simp] def oMaxV (μ : Mu) (ws : List Vw) : Option Vw := match ws with
  | [.d (.tuple ds)] => (match toI ds with
    | some (n :: ns) => some (.d (.int (ns.foldl max n)))
    | _ => none)
  | [w] => (match (toL μ w).bind toI with
    | some (n :: ns) => some (.d (.int (ns.foldl max n)))
    | _ => none)
  | _ => none
theorem oMaxV_ok {K : PySem.W.Frag} : OL K (rMaxV K) oMaxV := by
  intro φ H μ ws w vs Q c r e k
  unfold oMaxV at e
  split at e
  · rename_i ds
    obtain ⟨v, rfl, r1⟩ := rvs1 r
    split at e
    · rename_i n ns e1
      cases e
      obtain ⟨a, xs, rfl, h1, h2⟩ := r1
      rw [toI_da e1 h2] at h1
      exact ⟨a, n, ns, rfl, .inr h1, post_here k c rfl⟩
    · cases e
  · rename_i z _
    obtain ⟨v, rfl, r1⟩ := rvs1 r
    split at e
    · rename_i n ns e1
      cases e
      obtain ⟨ds, e2, e3⟩ := Option.bind_eq_some_iff.mp e1
      obtain ⟨a, xs, rfl, h1, h2⟩ := toL_ok c r1 e2
      rw [toI_da e3 h2] at h1
      exact ⟨a, n, ns, rfl, .inl h1, post_here k c rfl⟩
    · cases e
  · cases e
@[simp] def oSum (μ : Mu) (ws : List Vw) : Option Vw := match ws with
  | [w] => ((toL μ w).bind toI).map fun ns => .d (.int ns.sum)
  | _ => none
theorem oSum_ok {K : PySem.W.Frag} : OL K (rSum K) oSum := by
  intro φ H μ ws w vs Q c r e k
  unfold oSum at e
  split at e
  · rename_i z
    obtain ⟨v, rfl, r1⟩ := rvs1 r
    obtain ⟨ns, e1, e4⟩ := Option.map_eq_some_iff.mp e
    cases e4
    obtain ⟨ds, e2, e3⟩ := Option.bind_eq_some_iff.mp e1
    obtain ⟨a, xs, rfl, h1, h2⟩ := toL_ok c r1 e2
    rw [toI_da e3 h2] at h1
    exact ⟨a, ns, rfl, h1, post_here k c rfl⟩
  · cases e
/-! ### a range as a value -/
theorem cr_range1 {X : Cx} : CallR X (.type "range") (fun vs H Q => ∃ i, vs = [V.int i] ∧ ∀ p, H p = none → Q (.ref p) (upd H p (.rng 0 i))) := by
  intro pins s σ H vs us Q I r h
  obtain ⟨i, rfl, q⟩ := h
  cases r with
  | cons r1 r2 =>
    cases r2
    obtain ⟨t, rfl⟩ := r1
    refine call_range_1 ⟨.ref s.heap.objs.size, upd H s.heap.objs.size (.rng 0 i), I.laid (t' := s.toks + 2) (fun b o e => Heap.get?_push_of_some _ e) (Nat.le_refl _) ?_, rfl, q _ (I.hok.fresh (Nat.le_refl _))⟩
    exact ⟨_, _, _, Heap.get?_push_size _ rfl⟩
@[simp] def oRange (_ : Mu) (ws : List Vw) : Option Vw := match ws with
  | [.d (.int i)] => some (.rg 0 i)
  | _ => none
theorem oRange_ok {K : PySem.W.Frag} : OL K (fun vs H Q => ∃ i, vs = [V.int i] ∧ ∀ p, H p = none → Q (.ref p) (upd H p (.rng 0 i))) oRange := by
  intro φ H μ ws w vs Q c r e k
  unfold oRange at e
  split at e
  · rename_i i
    cases e
    obtain ⟨v, rfl, r1⟩ := rvs1 r
    cases r1
    exact ⟨i, rfl, fun p hp => k φ _ _ (Grow.laid hp) (c.laid hp) ⟨p, rfl, upd_same⟩⟩
  · cases e
theorem pi_rgv {X : Cx} {tg l : Expr} {tl : TE} (hl : PE X l tl) : PI X tg l (fun σ H R => tl σ H fun x H1 => ∃ a lo hi, x = .ref a ∧ H1 a = some (.rng lo hi) ∧ (-(2 ^ 62) ≤ lo ∧ lo < 2 ^ 62 ∧ -(2 ^ 62) ≤ hi ∧ hi < 2 ^ 62) ∧ R (Itr lo (hi - lo).toNat) H1) := by
  refine ⟨fun pins s σ H R I h => ?_⟩
  refine thn (hl.run pins s σ H _ I h) fun v s1 ⟨x, H1, I1, r1, q1⟩ => ?_
  obtain ⟨a, lo, hi, e, hq, ⟨h1, h2, h3, h4⟩, q⟩ := q1
  subst e
  cases r1
  obtain ⟨t, u, vv, ho⟩ := I1.hok a _ hq
  refine wpAny_pyIter_range (show IsRange s1.heap a lo hi 1 t u vv from ho) (small_one h1 h2 h3 h4) ?_
  refine ⟨s1.heap.objs.size, [s1.heap.objs.size], _, _, H1, rfl, I1.kept (t' := s1.toks) fun b o e => Heap.get?_push_of_some _ e, turn_range _ lo (hi - lo).toNat, ?_, fun b hb => ?_, q⟩
  · have e1 : lo + ((0 : Nat) : Int) * 1 = lo := by simp
    have e2 : (((hi - lo).toNat : Nat) : Int) - ((0 : Nat) : Int) = Builtin.Range.rangeSize lo hi 1 := by rw [rangeSize_one]; split <;> omega
    show IsRangeIter _ _ (lo + ((0 : Nat) : Int) * 1) ((((hi - lo).toNat : Nat) : Int) - ((0 : Nat) : Int)) 1
    rw [e1, e2]
    exact Heap.get?_push_size _ rfl
  · have e : b = s1.heap.objs.size := by simpa using hb
    subst e
    exact I1.fpOk (Nat.le_refl _) (I1.hok.fresh (Nat.le_refl _))
open Classical in
@[simp] noncomputable def iRgv (f : EF) (ρ : Rho) (μ : Mu) : Option (List PyData × Option Nat × Mu) := match f ρ μ with
  | some (.rg lo hi, μ1) => if rgOk lo hi then some (rngD lo (hi - lo).toNat, none, μ1) else none
  | _ => none
theorem ij_rgv {X : Cx} {tg l : Expr} {f : EF} (h : PE X l (tE X.K f)) : PI X tg l (tI X.K (iRgv f)) := ⟨fun pins s σ H R I q => by
  obtain ⟨φ, ρ, μ, ds, src, μ', rs, e, k⟩ := q
  unfold iRgv at e
  split at e
  · rename_i lo hi μ1 e1
    split at e
    · rename_i hb
      cases e
      refine (pi_rgv h).run pins s σ H R I ⟨φ, ρ, μ, _, _, rs, e1, fun φ1 v H1 g1 c1 r1 => ?_⟩
      obtain ⟨a, e2, h1⟩ := r1
      exact ⟨a, lo, hi, e2, h1, hb, k φ1 _ H1 g1 c1 wk_rng⟩
    · cases e
  · cases e⟩
/-! ### xs[::-1] -/
theorem adjust_rev (n : Nat) : Builtin.Slice.sliceAdjust none none (-1) (n : Int) = ((n : Int) - 1, -1) := rfl
theorem places_rev (n : Nat) : Builtin.Slice.slicePlaces ((n : Int) - 1) (-1) (-1) = n := by
  unfold Builtin.Slice.slicePlaces
  rw [if_neg (by decide)]
  by_cases h : n = 0
  · subst h; rfl
  · rw [if_pos (by omega)]
    have : ((n : Int) - 1 - -1 - 1) / (- -1) + 1 = n := by
      have : (- -1 : Int) = 1 := rfl
      rw [this, Int.ediv_one]; omega
    rw [this]; rfl
theorem pick_rev (xs : Array Value) : ((List.range xs.size).filterMap fun (m : Nat) => xs[((xs.size : Int) - 1 + (m : Int) * -1).toNat]?).toArray = xs.toList.reverse.toArray := by
  have e : ∀ n, n ≤ xs.size → (List.range n).filterMap (fun (m : Nat) => xs[((xs.size : Int) - 1 + (m : Int) * -1).toNat]?) = (xs.toList.reverse).take n := by
    intro n hn
    induction n with
    | zero => rfl
    | succ n ih =>
      have e1 : ((xs.size : Int) - 1 + (n : Int) * -1).toNat = xs.size - 1 - n := by omega
      have e2 : xs.toList.reverse[n]? = xs[xs.size - 1 - n]? := by
        rw [List.getElem?_reverse (by rw [Array.length_toList]; omega), Array.length_toList, Array.getElem?_toList]
      have e3 : n < xs.toList.reverse.length := by rw [List.length_reverse, Array.length_toList]; omega
      rw [List.range_succ, List.filterMap_append, ih (by omega), List.take_succ, e2]
      simp only [List.filterMap_cons, List.filterMap_nil, e1]
      cases xs[xs.size - 1 - n]? <;> rfl
  have := e xs.size (Nat.le_refl _)
  rw [this, List.take_of_length_le (by rw [List.length_reverse, Array.length_toList]; exact Nat.le_refl _)]
section
variable {prog : Program} {w : World} {A : Around} {E : Value → Shared → Prop} {s : Shared}
theorem sliceApplied_rev {sl : Addr} {vl vu vs : Value} {n : Nat} {Q : Int × Int × Nat → Shared → Prop} (hs : s.heap.IsSliceOf sl vl vu vs) (pl : IsPart vl none) (pu : IsPart vu none) (ps : IsPart vs (some (-1)))
    (h : Q ((n : Int) - 1, -1, n) s) : wpAny (model prog w) A (Builtin.Slice.sliceApplied (.ref sl) (pure (n : Int))) Q E s := by
  obtain ⟨os, hos, hcs, hds⟩ := id hs
  unfold Builtin.Slice.sliceApplied Builtin.Slice.sliceFields
  refine wpAny_bind (wpAny_bind (wpAny_field hos hds (x := vl) rfl (wpAny_bind (wpAny_field hos hds (x := vu) rfl (wpAny_bind (wpAny_field hos hds (x := vs) rfl (wpAny_pure ?_)))))))
  refine wpAny_bind (slicePart_ ps ?_)
  show wpAny _ _ (if ((-1 : Int) == 0) = true then _ else _) _ _ s
  rw [if_neg (by decide)]
  refine wpAny_bind (slicePart_ pl (wpAny_bind (slicePart_ pu (wpAny_bind (wpAny_pure ?_)))))
  show wpAny _ _ (match Builtin.Slice.sliceAdjust none none (-1) (n : Int) with | (lo, hi) => pure (lo, (-1 : Int), Builtin.Slice.slicePlaces lo hi (-1))) _ _ s
  rw [adjust_rev n]
  show wpAny _ _ (pure ((n : Int) - 1, (-1 : Int), Builtin.Slice.slicePlaces ((n : Int) - 1) (-1) (-1))) _ _ s
  rw [places_rev]
  exact wpAny_pure h
theorem tup_rev {t sl : Addr} {items : Array Value} {vl vu vs : Value} {Q : Value → Shared → Prop} (ht : IsTup s.heap t items) (hs : s.heap.IsSliceOf sl vl vu vs) (pl : IsPart vl none) (pu : IsPart vu none) (ps : IsPart vs (some (-1)))
    (h : Q (.ref s.heap.objs.size) { s with heap := s.heap.push { cls := .type "tuple", data := .seq items.toList.reverse.toArray } })
    (hsz : items.size ≤ sizeLine) : wpAny (model prog w) A (getItem (.ref t) (.ref sl)) Q E s := by
  have htake : sizeOk (.seq items.toList.reverse.toArray) := by
    show items.toList.reverse.toArray.size ≤ sizeLine
    rw [List.size_toArray, List.length_reverse, Array.length_toList]
    exact hsz
  obtain ⟨os, hos, hcs, hds⟩ := id hs
  have hTs : s.TypeIs (.ref sl) "slice" := ⟨os, hos, hcs⟩
  unfold getItem
  try with_reducible refine wpAny_holding ?_
  first | refine wpAny_bind (wpAny_pure ?_) | skip
  refine wpAny_bind (wpAny_sequenceKey ht.typeIs (by decide) ?_)
  refine wpAny_bind (wpAny_callSpecial?_slot (name := Str.ofString "__getitem__") ht.typeIs PyProof.Rows.slot_tuple_getitem
    (wpAny_call_entry PyProof.Rows.slot_tuple_getitem ht.typeIs entry_tuple_getitem ?_ (args_tuple_getitem _ _)))
  show wpAny _ _ (Builtin.Tuple.tupleItemsOf (.ref t) >>= _) _ _ s
  refine wpAny_bind (tupleItemsOf_ ht ?_)
  refine wpAny_bind (wpAny_typeOf hTs ?_)
  rw [if_pos (by decide)]
  refine wpAny_bind (sliceApplied_rev hs pl pu ps ?_)
  have hno : ¬ ((((items.size : Int) - 1) == 0 && (-1 : Int) == 1 && items.size == items.size) = true) := by simp
  show wpAny _ _ (if (((items.size : Int) - 1) == 0 && (-1 : Int) == 1 && items.size == items.size) = true then _ else _) _ _ s
  rw [if_neg hno, pick_rev]
  first
    | exact wpAny_bind (m := Builtin.Tuple.tupleExact _) (wpAny_newObj_type (wpAny_pure ⟨_, rfl, wpAny_pure h⟩) htake)
    | exact wpAny_bind (m := Builtin.Tuple.tupleExact _) (wpAny_newObj_type (wpAny_bind (wpAny_pure (wpAny_pure ⟨_, rfl, wpAny_pure h⟩))) htake)
    | exact wpAny_bind (wpAny_bind (m := Builtin.Tuple.tupleExact _) (wpAny_newObj_type (wpAny_pure (wpAny_pure ⟨_, rfl, wpAny_pure h⟩)) htake))
    | exact wpAny_bind (wpAny_bind (m := Builtin.Tuple.tupleExact _) (wpAny_newObj_type (wpAny_pure ⟨_, rfl, wpAny_pure h⟩) htake))
end
def tRevV (K : PySem.W.Frag) (te : TE) : TE := fun σ H Q => te σ H fun x H1 => ∃ a xs, x = .ref a ∧ ((SqL K H1 a xs ∧ ∀ p, H1 p = none → Q (.ref p) (upd H1 p (.lst xs.reverse))) ∨ (SqT K H1 a xs ∧ ∀ p, H1 p = none → Q (.ref p) (upd H1 p (.tup xs.reverse))))
theorem pe_revV {X : Cx} {e : Expr} {te : TE} {k : Nat} {p1 p2 p3 pos : Pos} (he : PE X e te) : PE X (.Subscript e (.Slice none none (some (.UnaryOp .USub (.Constant (.int 1) k p1) p2)) p3) pos) (tRevV X.K te) := by
  refine ⟨fun pins s σ H Q I h => ?_⟩
  refine Subscript_ (thn (he.run pins s σ H _ I h) fun v s1 ⟨x, H1, I1, r1, q1⟩ => ?_)
  obtain ⟨a, xs, ex, q⟩ := q1
  subst ex
  cases r1
  have hst : PO X (some (.UnaryOp .USub (.Constant (.int 1) k p1) p2)) (tPart (tUn (rU fun i => .int (-i)) (tC (.int 1)))) := po_some (pe_un un_neg pe_int)
  refine wpAny_Slice (thn (po_none.run pins s1 σ H1 (fun o H2 => o = none ∧ H2 = H1) I1 ⟨rfl, rfl⟩) fun vl s2 ⟨l, H2, I2, pl, el, e2⟩ => ?_)
  subst el e2
  refine thn (po_none.run pins s2 σ H2 (fun o H3 => o = none ∧ H3 = H2) I2 ⟨rfl, rfl⟩) fun vu s3 ⟨u, H3, I3, pu, eu, e3⟩ => ?_
  subst eu e3
  refine thn (hst.run pins s3 σ H3 (fun o H4 => o = some (-1) ∧ H4 = H3) I3 ⟨1, rfl, -1, rfl, rfl, rfl⟩) fun vs s4 ⟨o, H4, I4, ps, eo, e4⟩ => ?_
  subst eo e4
  have I5 : L2.Inv X pins σ H4 { s4 with heap := s4.heap.push { cls := .type "slice", data := .fields #[vl, vu, vs] } } := I4.kept (t' := s4.toks) fun b ob q => Heap.get?_push_of_some _ q
  show wpAny (model X.prog X.w) X.A (subscriptTail e (.Slice none none (some (.UnaryOp .USub (.Constant (.int 1) k p1) p2)) p3) (.ref a) (.ref s4.heap.objs.size)) (EP X pins σ Q) X.xe { s4 with heap := s4.heap.push { cls := .type "slice", data := .fields #[vl, vu, vs] } }
  rcases q with ⟨hx, q⟩ | ⟨hx, q⟩
  · obtain ⟨its, r, ht, hz⟩ := I5.list hx
    have hlen := r.length
    refine tail_any (ops := [.ref a, .ref s4.heap.objs.size]) ht.isList.typeIs (PySem.slot_list_getitem.lookup) ?_ (by with_unfolding_all rfl)
    refine wpAny_getItem_list_slice ht.isList (Heap.IsSliceOf.new _ vl vu vs) pl pu ps (by decide) ?_ (by rw [List.size_toArray]; omega)
    rw [PySem.W.krv_pick]
    refine ⟨.ref _, _, I5.laid (t' := s4.toks) (o := .lst xs.reverse) (fun b ob q => Heap.get?_push_of_some _ q) (Nat.le_refl _) ?_, rfl, q _ (I5.hok.fresh (Nat.le_refl _))⟩
    exact ⟨by rw [List.length_reverse]; exact hz, _, 0, r.reverse, Heap.get?_push_size _ rfl⟩
  · obtain ⟨its, r, ht, hz⟩ := I5.tuple hx
    have hlen := r.length
    refine tail_any (ops := [.ref a, .ref s4.heap.objs.size]) ht.typeIs (PyProof.Rows.slot_tuple_getitem.lookup) ?_ (by with_unfolding_all rfl)
    refine tup_rev ht (Heap.IsSliceOf.new _ vl vu vs) pl pu ps ?_ (by rw [List.size_toArray]; omega)
    refine ⟨.ref _, _, I5.laid (t' := s4.toks) (o := .tup xs.reverse) (fun b ob q => Heap.get?_push_of_some _ q) (Nat.le_refl _) ?_, rfl, q _ (I5.hok.fresh (Nat.le_refl _))⟩
    exact ⟨by rw [List.length_reverse]; exact hz, _, r.reverse, IsTup.new _ _⟩
@[simp] def oRevS (μ : Mu) (w : Vw) : Option Vw := match w with
  | .d (.tuple ds) => some (.d (.tuple ds.reverse))
  | w => (toL μ w).map fun ds => .d (.list ds.reverse)
theorem DaAll.reverse {K : PySem.W.Frag} {A : List Addr} {H : Hp} : ∀ {ds : List PyData} {xs : List V}, DaAll K A H ds xs → DaAll K A H ds.reverse xs.reverse
  | [], _, h => by rw [show _ = _ from h]; rfl
  | d :: ds, _, ⟨v, vs, e, h, hs⟩ => by
    rw [e, List.reverse_cons, List.reverse_cons]
    exact DaAll.append (DaAll.reverse hs) ⟨v, [], rfl, h, rfl⟩
theorem ej_rev {X : Cx} {e : Expr} {f : EF} {k : Nat} {p1 p2 p3 pos : Pos} (he : PE X e (tE X.K f)) : PE X (.Subscript e (.Slice none none (some (.UnaryOp .USub (.Constant (.int 1) k p1) p2)) p3) pos) (tE X.K (eB1 oRevS f)) := PE.to (pe_revV he) fun σ H Q ⟨φ, ρ, μ, w, μ', rs, e, k⟩ => by
  unfold eB1 at e
  split at e
  · rename_i z μ1 e1
    obtain ⟨u, e2, e3⟩ := Option.map_eq_some_iff.mp e
    cases e3
    refine ⟨φ, ρ, μ, z, _, rs, e1, fun φ1 v H1 g1 c1 r1 => ?_⟩
    unfold oRevS at e2
    split at e2
    · cases e2
      obtain ⟨a, xs, rfl, h1, h2⟩ := r1
      exact ⟨a, xs, rfl, .inr ⟨h1, new_tup c1 (DaAll.reverse h2) fun φ4 v4 H4 g4 c4 r4 => k φ4 v4 H4 (g1.trans g4) c4 r4⟩⟩
    · obtain ⟨ds, e5, e6⟩ := Option.map_eq_some_iff.mp e2
      cases e6
      obtain ⟨a, xs, rfl, h1, h2⟩ := toL_ok c1 r1 e5
      exact ⟨a, xs, rfl, .inl ⟨h1, new_lst c1 (DaAll.reverse h2) fun φ4 v4 H4 g4 c4 r4 => k φ4 v4 H4 (g1.trans g4) c4 r4⟩⟩
  · cases e
/-! ### a list, a tuple times an int -/
theorem da_rep {K : PySem.W.Frag} {A : List Addr} {H : Hp} {ds : List PyData} {xs : List V} (h : DaAll K A H ds xs) : ∀ n : Nat, DaAll K A H (List.replicate n ds).flatten (List.replicate n xs).flatten
  | 0 => rfl
  | n + 1 => by
    rw [List.replicate_succ, List.replicate_succ, List.flatten_cons, List.flatten_cons]
    exact DaAll.append h (da_rep h n)
def repOk (ds : List PyData) (k : Int) : Bool := decide (ds ≠ [] ∧ 2 ≤ k ∧ k ≤ 1000 ∧ ds.length ≤ 1000)
@[simp] def oRep (μ : Mu) (x y : Vw) : Option Vw := match x, y with
  | .d (.tuple ds), .d (.int k) => if 2 ≤ k ∧ k ≤ 1000 ∧ 0 < ds.length ∧ ds.length ≤ 1000 then some (.d (.tuple (List.replicate k.toNat ds).flatten)) else none
  | x, .d (.int k) => (toLm μ x).bind fun ds => if k ≤ 1000000 ∧ -1000000 ≤ k ∧ ds.length * k.toNat ≤ 1000000 then some (.d (.list (List.replicate k.toNat ds).flatten)) else none
  | _, _ => none
theorem oRep_ok {K : PySem.W.Frag} : O2 K (fun x y H Q => rRepT K x y H Q ∨ rRep x y H Q) oRep := by
  intro φ H μ x y w u v Q c rx ry e k
  unfold oRep at e
  split at e
  · rename_i ds i
    split at e
    · rename_i h
      cases e
      obtain ⟨a, xs, rfl, h1, h2⟩ := rx
      cases ry
      have hl := h2.len
      exact .inl ⟨a, i, xs, rfl, rfl, h1, fun z => by rw [z] at hl; simp at hl; rw [hl] at h; simp at h, h.1, h.2.1, by rw [← hl]; exact h.2.2.2, new_tup c (da_rep h2 _) k⟩
    · cases e
  · rename_i i _
    obtain ⟨ds, e1, e2⟩ := Option.bind_eq_some_iff.mp e
    split at e2
    · rename_i h
      cases e2
      obtain ⟨a, xs, rfl, h1, h2⟩ := toLm_ok c rx e1
      cases ry
      exact .inr ⟨a, i, xs, rfl, rfl, h1, by omega, by omega, by rw [← h2.len]; exact size_ok h.2.2, new_lst c (da_rep h2 _) k⟩
    · cases e2
  · cases e
theorem ej_rep {X : Cx} {a b : Expr} {pos : Pos} {f g : EF} (ha : PE X a (tE X.K f)) (hb : PE X b (tE X.K g)) : PE X (.BinOp a .Mult b pos) (tE X.K (eB2 oRep f g)) := ej_op (OpR.or op_repT op_rep) oRep_ok ha hb
/-! ### a comprehension within a comprehension -/
theorem lookup_re {f : Str × NameKind → Str × NameKind} (hf : ∀ p, (f p).1 = p.1 ∧ (p.2 = .cell ∨ p.2 = .free → (f p).2 = .cell ∨ (f p).2 = .free)) : ∀ {names : List (Str × NameKind)} {x : Str}, names.lookup x = some .cell ∨ names.lookup x = some .free → (names.map f).lookup x = some .cell ∨ (names.map f).lookup x = some .free
  | [], _, h => by simp at h
  | p :: r, x, h => by
    obtain ⟨h1, h2⟩ := hf p
    obtain ⟨n, k⟩ := p
    rw [List.map_cons]
    generalize hz : f (n, k) = z at *
    obtain ⟨n', k'⟩ := z
    have h1' : n' = n := h1
    subst h1'
    by_cases e : x = n'
    · subst e
      have l1 : ∀ (k : NameKind) (r : List (Str × NameKind)), List.lookup x ((x, k) :: r) = some k := fun k r => by simp [List.lookup_cons]
      rw [l1] at h
      rw [l1]
      have : k = .cell ∨ k = .free := h.elim (fun z => .inl (Option.some.inj z)) fun z => .inr (Option.some.inj z)
      rcases h2 this with q | q
      · left; rw [show k' = .cell from q]
      · right; rw [show k' = .free from q]
    · have e' : (x == n') = false := by simpa using e
      have l2 : ∀ (k : NameKind) (r : List (Str × NameKind)), List.lookup x ((n', k) :: r) = List.lookup x r := fun k r => by simp only [List.lookup_cons, e']
      rw [l2] at h
      rw [l2]
      exact lookup_re hf h
theorem lookup_relabel {env : Env} {sc : Scope} {x : Str} (h : sc.names.lookup x = some .cell ∨ sc.names.lookup x = some .free) : (relabel sc env).names.lookup x = some .cell ∨ (relabel sc env).names.lookup x = some .free := by
  refine lookup_re (fun p => ?_) h
  obtain ⟨n, k⟩ := p
  by_cases c : (k == NameKind.free && env.scope.kind == .function && env.kindOf n == some .cell) = true
  · constructor
    · show (if _ then _ else _ : Str × NameKind).1 = _
      rw [if_pos c]
    · intro _; left
      show (if _ then _ else _ : Str × NameKind).2 = _
      rw [if_pos c]
  · constructor
    · show (if _ then _ else _ : Str × NameKind).1 = _
      rw [if_neg c]
    · intro h
      have e : (if (k == NameKind.free && env.scope.kind == .function && env.kindOf n == some .cell) = true then (n, NameKind.cell) else (n, k)) = (n, k) := if_neg c
      show (if (k == NameKind.free && env.scope.kind == .function && env.kindOf n == some .cell) = true then (n, NameKind.cell) else (n, k)).2 = _ ∨ (if (k == NameKind.free && env.scope.kind == .function && env.kindOf n == some .cell) = true then (n, NameKind.cell) else (n, k)).2 = _
      rw [e]; exact h
theorem blk_in {N : List Str} {sc scope : Scope} {env : Env} {own : List (Str × Nat)} (h : blkC N sc scope own = true) : BlkOk N (relabel sc env) scope own := by
  have b := blkOk_by h
  exact ⟨b.kind, b.uniq, b.ix, fun y hy e => lookup_relabel (b.free y hy e), b.own⟩
@[simp] def sPar3 (i j l : Nat) (f : AF) (ρ : Rho) (μ : Mu) : Option SR := match f ρ μ with
  | some ([v, w, u], μ1) => some (.nx (((ρ.set i (some v)).set j (some w)).set l (some u)) μ1)
  | _ => none
theorem sj_par3 {X : Cx} {i j l : Nat} {x y z : Str} {a b c : Expr} {f : AF} {px py pz pt pos : Pos} {kt k2 pt2} (hc : X.calm = true) (hN : X.N.Nodup) (hij : i ≠ j) (hil : i ≠ l) (hjl : j ≠ l) (ha : PA X [a, b, c] (tA X.K f)) (hi : X.N[i]? = some x := by rfl) (hj : X.N[j]? = some y := by rfl) (hl : X.N[l]? = some z := by rfl)
    (hx : X.env.scope.names.lookup x = some .local := by rfl) (hy : X.env.scope.names.lookup y = some .local := by rfl) (hz : X.env.scope.names.lookup z = some .local := by rfl)
    (hw : swappedStores [.Tuple [.Name x px, .Name y py, .Name z pz] kt pt] (.Tuple [a, b, c] k2 pt2) X.env = pure (some [x, y, z]) := by rfl)
    (hs : swapsWithSole [.Tuple [.Name x px, .Name y py, .Name z pz] kt pt] (.Tuple [a, b, c] k2 pt2) pos.line X.env = pure false := by rfl) :
    PS X (.Assign [.Tuple [.Name x px, .Name y py, .Name z pz] kt pt] (.Tuple [a, b, c] k2 pt2) pos) (tS X.K (sPar3 i j l f)) := PS.to (ps_par3 hc hN hi hj hl hij hil hjl hx hy hz ha hw hs) fun D σ H ⟨φ, ρ, μ, rs, k⟩ => by
  unfold sPar3 at k
  split at k
  · rename_i v w u μ1 e1
    refine ⟨φ, ρ, μ, _, μ1, rs, e1, fun φ1 vs H1 g1 c1 r1 => ?_⟩
    obtain ⟨u1, r, e2, h1, u2, r', e3, h2, u3, r'', e4, h3, e5⟩ := r1
    subst e2 e3 e4
    have e6 : r'' = [] := e5
    subst e6
    exact ⟨u1, u2, u3, rfl, k φ1 _ H1 g1 ((((rs.step g1 c1).put h1).put h2).put h3)⟩
  · exact k.elim
/-- a call that is not made -/
theorem ssj_never {X : Cx} {sts : List Stmt} : PSs X sts (tS X.K sNever) := ⟨fun pins s σ H D I ⟨φ, ρ, μ, rs, k⟩ => k.elim⟩
/-! ### a changed list walked from behind -/
def WkR (K : PySem.W.Frag) (φ : Ph) (H : Hp) (n : Nat) (all ds : List PyData) (J : It) : Prop := ∀ (φ' : Ph) (H' : Hp) (μ' : Mu), GrowW φ φ' H H' → Cells K φ' H' μ' → μ'[n]? = some all → ∀ i : Nat,
  (∀ d, ds[i]? = some d → J.go i H' ∧ ∀ x H'', J.yld i H' x H'' → Grow φ' φ' H' H'' ∧ Cells K φ' H'' μ' ∧ Da K φ'.av H'' d x) ∧ (ds.length ≤ i → J.stop i H')
def tIR (K : PySem.W.Frag) (fe : EF) : TI := fun σ H R => ∃ φ ρ μ n all μ', RS K φ σ H ρ μ ∧ fe ρ μ = some (.loc n, μ') ∧ μ'[n]? = some all ∧ ∀ φ' J H', Grow φ φ' H H' → Cells K φ' H' μ' → WkR K φ' H' n all all.reverse J → R J H'
@[simp] noncomputable def sForR (fe : EF) (t : TF) (body : SF) (ρ : Rho) (μ : Mu) : Option SR := match fe ρ μ with
  | some (.loc n, μ1) => (match μ1[n]? with
    | some all => forM t body (some n) all all.reverse ρ μ1
    | none => none)
  | _ => none
theorem ij_revR {X : Cx} {tg e : Expr} {f : EF} {p pos : Pos} (hm : X.mg "reversed" = none) (he : PE X e (tE X.K f)) (hg : Gl X "reversed" := by rfl) (hs : starEach [e] X.env = (false, eval e X.env) :: starEach [] X.env := by rfl) : PI X tg (.Call (.Name "reversed" p) [e] [] pos) (tIR X.K f) :=
  PI.to (RT.pi_revA hg hm he hs) fun σ H R ⟨φ, ρ, μ, n, all, μ', rs, e1, e0, k⟩ => by
  refine ⟨φ, ρ, μ, _, _, rs, e1, fun φ1 v H1 g1 c1 r1 => ?_⟩
  obtain ⟨a, h1, h2⟩ := id r1
  obtain ⟨xs, h3, h4⟩ := c1.at_ n a all h1 e0
  refine ⟨a, xs, h2, .inl ⟨SqL.of h3, k φ1 _ H1 g1 c1 fun φ' H' μ2 g c hs i => ?_⟩⟩
  obtain ⟨b, h5, h6⟩ := RV.step g _ _ r1
  rw [h2] at h6; cases h6
  obtain ⟨ys, h1', h2'⟩ := c.at_ n a all h5 hs
  have ll : xs.length = ys.length := by rw [← h4.len, h2'.len]
  refine ⟨fun d e => ?_, fun hl => by
    show xs.length ≤ i
    rw [List.length_reverse] at hl
    rw [← h4.len]; exact hl⟩
  obtain ⟨hl, e3⟩ := rev_get e
  obtain ⟨z, e4, e5⟩ := h2'.get e3
  rw [h4.len] at e4
  refine ⟨⟨by rw [← h4.len]; exact hl, ys, z, SqL.of h1', e4⟩, fun x H'' hy => ?_⟩
  obtain ⟨rfl, hy⟩ := hy
  have := hy ys (SqL.of h1')
  rw [e4] at this; cases this
  exact ⟨.refl _ _, c, e5⟩
theorem sj_forR {X : Cx} {tg iter : Expr} {body : List Stmt} {fe : EF} {t : TF} {vs : List Nat} {g : SF} {pos : Pos} (hp : PassesOwn (model X.prog X.w) X.A X.env X.xe) (hc : X.calm = true) (hi : PI X tg iter (tIR X.K fe)) (hg : PG X tg (tG X.K t vs)) (hb : PSs X body (tS X.K g))
    (hs : ∀ x, foldedSetIterable iter X.env x = pure x := by intro _; rfl) : PS X (.For tg iter body [] pos) (tS X.K (sForR fe t g)) := PS.to (ps_for hp hc hi hg hb hs) fun D σ H ⟨φ, ρ, μ, rs, k⟩ => by
  unfold sForR at k
  split at k
  · rename_i n μ1 e1
    split at k
    · rename_i all e0
      refine ⟨φ, ρ, μ, n, all, μ1, rs, e1, e0, fun φ1 J H1 g1 c1 wk => ?_⟩
      generalize hds : all.reverse = ds at *
      refine ⟨fun i m σ' H' => m = ds.length - i ∧ ∃ φ2 ρ2 μ2, Grow φ1 φ2 H1 H' ∧ RS X.K φ2 σ' H' ρ2 μ2 ∧ SPost X.K φ2 H' D (forM t g (some n) all (ds.drop i) ρ2 μ2), ⟨_, rfl, φ1, ρ, μ1, .refl _ _, rs.step g1 c1, SPost.grow g1 k⟩, ?_⟩
      rintro i m σ2 H2 ⟨rfl, φ2, ρ2, μ2, g2, rs2, k2⟩
      cases hdi : ds.drop i with
      | nil =>
        rw [hdi] at k2
        unfold forM at k2
        split at k2
        · rename_i hsrc
          have hl : ds.length ≤ i := List.drop_eq_nil_iff.mp hdi
          exact .inl ⟨(wk φ2 H2 μ2 g2 rs2.c (hsrc n rfl) i).2 hl, k2 φ2 σ2 H2 (.refl _ _) rs2⟩
        · exact k2.elim
      | cons d r =>
        rw [hdi] at k2
        have hil : i < ds.length := by
          by_cases z : i < ds.length
          · exact z
          · rw [List.drop_eq_nil_iff.mpr (by omega)] at hdi; cases hdi
        have hdg : ds[i]? = some d := by
          have := List.getElem?_drop (xs := ds) (i := i) (j := 0)
          rw [hdi] at this
          simpa using this.symm
        have hdr : ds.drop (i + 1) = r := by
          have : (ds.drop i).drop 1 = ds.drop (i + 1) := by rw [List.drop_drop]
          rw [← this, hdi]; rfl
        unfold forM at k2
        split at k2
        · rename_i hsrc
          obtain ⟨go, hy⟩ := (wk φ2 H2 μ2 g2 rs2.c (hsrc n rfl) i).1 d hdg
          refine .inr ⟨go, fun σ' H' => ∃ φ3 ρ3 μ3, Grow φ1 φ3 H1 H' ∧ RS X.K φ3 σ' H' ρ3 μ3 ∧ SPost X.K φ3 H' D (forM t g (some n) all (ds.drop (i + 1)) ρ3 μ3), fun σ' H' hN => ⟨ds.length - (i + 1), by omega, rfl, hN⟩, fun x H3 hyl => ?_⟩
          obtain ⟨g3, c3, hx⟩ := hy x H3 hyl
          have rs3 := rs2.step g3 c3
          split at k2
          · exact k2.elim
          · rename_i ρ3 e3
            refine ⟨φ2, ρ2, μ2, .d d, ρ3, rs3, hx, e3, fun σ4 rs4 _ => ⟨φ2, ρ3, μ2, rs4, ?_⟩⟩
            rw [hdr]
            have k3 := SPost.grow g3 k2
            cases eb : g ρ3 μ2 with
            | none => rw [eb] at k3; exact k3
            | some z =>
              rw [eb] at k3
              cases z with
              | nx ρ5 μ5 => exact fun φ5 σ5 H5 g5 r5 => ⟨φ5, ρ5, μ5, (g2.trans g3).trans g5, r5, SPost.grow g5 k3⟩
              | ct ρ5 μ5 => exact fun φ5 σ5 H5 g5 r5 => ⟨φ5, ρ5, μ5, (g2.trans g3).trans g5, r5, SPost.grow g5 k3⟩
              | bk ρ5 μ5 => exact k3
              | rt w μ5 => exact k3
        · exact k2.elim
    · exact k.elim
  · exact k.elim
end VL
end
section
set_option Elab.async false
set_option linter.all false
set_option maxRecDepth 100000
namespace VL
open PySem PySem.Spec PyProof.Rows L2
variable [LawTabs]
/-! ### xs.extend(ys), ys a list that is data -/
@[simp] def sExt (fo fe : EF) (ρ : Rho) (μ : Mu) : Option SR := match fo ρ μ with
  | some (.loc n, μ1) => (match fe ρ μ1 with
    | some (.d (.list es), μ2) => (match μ2[n]? with
      | some ds => if ds.length + es.length ≤ 1000000 then some (.nx ρ (μ2.set n (ds ++ es))) else none
      | none => none)
    | _ => none)
  | _ => none
theorem sj_ext {X : Cx} {pos : Pos} {o e : Expr} {fo fe : EF} {apos cpos : Pos} (ho : PE X o (tE X.K fo)) (he : PE X e (tE X.K fe)) (hbase : attributeBase o "extend" X.env (eval o X.env) = eval o X.env := by rfl)
    (hfew : ((backTo cpos (starEach [e] X.env)).all (fun x => !x.1) && (backToKw cpos (keywordEach [] X.env)).all (fun x => x.1.isSome) && decide (([e] : List Expr).length + ([] : List Keyword).length + (if ([] : List Keyword).isEmpty then 0 else 1) < 30)) = true := by rfl)
    (hline : (apos.endLine == cpos.line) = true := by rfl) (hs : starEach [e] X.env = (false, eval e X.env) :: starEach [] X.env := by rfl) (hplain : (backTo cpos (starEach [] X.env)).any (·.1) = false := by rfl)
    (hsw : swapsWith (.Call (.Attribute o "extend" apos) [e] [] cpos) none pos.line X.env = pure false := by rfl) : PS X (.Expr (.Call (.Attribute o "extend" apos) [e] [] cpos) pos) (tS X.K (sExt fo fe)) :=
  PS.to (ps_expr (pe_bm PySem.F.plainAttrs_list PySem.F.slot_list_extend PySem.F.type_list_extend mt_extend ho (aj_cons he aj_nil hs) hbase hfew hline hs hplain) hsw) fun D σ H ⟨φ, ρ, μ, rs, k⟩ => by
  unfold sExt at k
  split at k
  · rename_i n μ1 e1
    refine ⟨φ, ρ, μ, _, μ1, rs, e1, fun φ1 v1 H1 g1 c1 r1 => ?_⟩
    have rs1 := rs.step g1 c1
    obtain ⟨a, h1, h2⟩ := id r1
    obtain ⟨xs, hx⟩ := c1.mem (List.mem_of_getElem? h1)
    subst h2
    refine ⟨.inl ⟨rfl, xs, SqL.of hx⟩, ?_⟩
    split at k
    · rename_i es μ2 e2
      refine ⟨φ1, ρ, μ1, [.d (.list es)], μ2, rs1, by unfold aCons aNil; rw [e2]; rfl, fun φ2 vs H2 g2 c2 r2 => ?_⟩
      obtain ⟨v, r, ev, h3, h4⟩ := r2
      have h5 : r = [] := h4
      subst ev h5
      obtain ⟨b0, zs, h10, h11, h12, h13⟩ := h3
      subst h10
      split at k
      · rename_i ds e4
        split at k
        · rename_i hl
          obtain ⟨b, h6, h7⟩ := RV.step g2.w _ _ r1
          cases h7
          obtain ⟨ys, h8, h9⟩ := c2.at_ n a ds h6 e4
          refine ⟨a, b0, ys, zs, rfl, rfl, h8, h12, ?_, ?_⟩
          · rw [← h9.len, ← h13.len]; exact size_ok hl
          · obtain ⟨g4, c4⟩ := cell_write c2 h6 (DaAll.append h9 h13)
            exact k φ2 σ _ ((g1.trans g2).trans g4) ((rs1.step g2 c2).step g4 c4)
        · exact k.elim
      · exact k.elim
    · exact k.elim
  · exact k.elim
/-! ### sorted(xs), whole numbers -/
def srt (ns : List Int) : List Int := ns.mergeSort (fun a b => decide (a ≤ b))
theorem srt_eq {ns ms : List Int} (h : ms.Perm ns) (hs : ms.Pairwise (· ≤ ·)) : ms = srt ns := by
  have p2 : (srt ns).Perm ns := List.mergeSort_perm ns _
  have s2 : (srt ns).Pairwise (· ≤ ·) := by
    have := List.pairwise_mergeSort (le := fun a b : Int => decide (a ≤ b)) (fun a b c h1 h2 => by simp at *; omega) (fun a b => by simp; omega) ns
    exact this.imp fun h => by simpa using h
  exact (h.trans p2.symm).eq_of_pairwise (fun a b _ _ h1 h2 => by omega) hs s2
theorem toI_ints : ∀ xs : List Int, toI (xs.map PyData.int) = some xs
  | [] => rfl
  | x :: xs => by simp [toI_ints xs]
@[simp] def oSorted (μ : Mu) (ws : List Vw) : Option Vw := match ws with
  | [w] => ((toL μ w).bind toI).map fun ns => .d (.list ((srt ns).map PyData.int))
  | _ => none
theorem oSorted_ok {K : PySem.W.Frag} : OL K (rSortedI K) oSorted := by
  intro φ H μ ws w vs Q c r e k
  unfold oSorted at e
  split at e
  · rename_i z
    obtain ⟨v, rfl, r1⟩ := rvs1 r
    obtain ⟨ns, e1, e4⟩ := Option.map_eq_some_iff.mp e
    cases e4
    obtain ⟨ds, e2, e3⟩ := Option.bind_eq_some_iff.mp e1
    obtain ⟨a, xs, rfl, h1, h2⟩ := toL_ok c r1 e2
    rw [toI_da e3 h2] at h1
    refine ⟨a, ns, rfl, h1, fun ms p hp hs hn => ?_⟩
    rw [srt_eq hp hs]
    exact new_lst c (DaAll.ints (srt ns)) k p hn
  · cases e
end VL
end
section
set_option Elab.async false
set_option linter.all false
set_option maxRecDepth 100000
set_option maxHeartbeats 2000000
/-! own exceptions that keep one value: a class over a built-in one, whose __init__ writes its one field -/
namespace VL
open PySem PySem.W PySem.Calls PyProof.Rows PySem.HandSPX
def inA (f : Str) (p1 p2 : Pos) : Arguments := { posonlyargs := [], args := [{ arg := "self", annotation := none, pos := p1 }, { arg := f, annotation := none, pos := p2 }], vararg := none, kwonlyargs := [], kw_defaults := [], kwarg := none, defaults := [] }
def inB (f : Str) (q1 q2 q3 q4 : Pos) : List Stmt := [.Assign [.Attribute (.Name "self" q1) f q2] (.Name f q3) q4]
def inS (f : Str) : Scope := { kind := .function, names := [(PySem.Str.ofString "self", .local), (f, .local)], isGenerator := false, isCoroutine := false, more := [] }
/-- a base: its chain lets be stored, has object -/
structure LowB (bmB : List Value) (B newId initId : String) : Prop where
  F : ExcBaseFacts B newId initId bmB
  ps : ∀ self : Value, refuseLoop self "__setattr__" bmB = pure ()
  ob : bmB.contains (.type "object") = true
  ne : bmB.isEmpty = false
structure LowC (K : Frag) (mg : Str → Option Value) (x f : Str) (bmB : List Value) (newId : String) (C fI : Addr) : Prop where
  gC : mg x = some (.ref C)
  cls : ∃ nm q N bs sn sub ab col dd k0 k1 k2 k3 k5, K.lookup C = some (excClassObj nm q C N bs bmB true sn sub ab col dd k0 k1 k2 k3 k5 newId)
  sa : findIn K (.ref C) "__setattr__" = some (some (.builtin "object.__setattr__"))
  ga : findIn K (.ref C) "__getattribute__" = some (some (.builtin "BaseException.__getattribute__"))
  gg : findIn K (.ref C) "__getattr__" = some none
  noN : findIn K (.ref C) f = some none
  iC : findIn K (.ref C) "__init__" = some (some (.ref fI))
  tC : typeIn K (.ref fI) = some (.type "function")
  kC : keepIn K (.ref C) = true
  exC : subIn K (.ref C) (.type "BaseException") = some true
  tyC : typeIn K (.ref C) = some (.type "type")
  hdC : hasDictIn K C = true
  fn : ∃ (oc : Value) (od : Option Addr) (doc pm kV : Value) (an : Option Addr) (cdv ct : Value) (osl : Array (Option Value)) (qn : Str) (p1 p2 q1 q2 q3 q4 : Pos),
    K.lookup fI = some ⟨oc, od, .func (fnOf "__init__" qn (inA f p1 p2) (inB f q1 q2 q3 q4) (inS f) .none kV doc pm an cdv ct), osl⟩ ∧ codeIn K cdv qn = true
/-- a field's name that is no other word here -/
structure FldOk (f : Str) : Prop where
  dbg : (f == ("__debug__" : Str)) = false
  bind : ∀ (qn : Str) (p1 p2 q1 q2 q3 q4 : Pos) (kV doc pm : Value) (an : Option Addr) (cdv ct a v : Value), bindArgs (fnOf "__init__" qn (inA f p1 p2) (inB f q1 q2 q3 q4) (inS f) .none kV doc pm an cdv ct) ⟨[a, v], []⟩ = pure [(("self" : Str), a), (f, v)]
  knd : ∀ a v : Value, ([(("self" : Str), a), (f, v)].all fun y => (inS f).names.lookup y.1 == some .local || (inS f).names.lookup y.1 == some .cell) = true
  lkf : ∀ (qn : Str) (L a : Addr) (cd u v : Value), bindL (envOfC qn (inS f) L a cd).kindOf [(("self" : Str), u), (f, v)] (fun _ => none) f = some v
  lks : ∀ (qn : Str) (L a : Addr) (cd u v : Value), bindL (envOfC qn (inS f) L a cd).kindOf [(("self" : Str), u), (f, v)] (fun _ => none) ("self" : Str) = some u
  kdf : ∀ (qn : Str) (L a : Addr) (cd : Value), (envOfC qn (inS f) L a cd).kindOf f = some .local
  kds : ∀ (qn : Str) (L a : Addr) (cd : Value), (envOfC qn (inS f) L a cd).kindOf ("self" : Str) = some .local
theorem fld_given : FldOk "given" := ⟨by decide, fun _ _ _ _ _ _ _ _ _ _ _ _ _ _ _ => rfl, fun _ _ => rfl, fun _ _ _ _ _ _ => rfl, fun _ _ _ _ _ _ => rfl, fun _ _ _ _ => rfl, fun _ _ _ _ => rfl⟩
theorem fld_reason : FldOk "reason" := ⟨by decide, fun _ _ _ _ _ _ _ _ _ _ _ _ _ _ _ => rfl, fun _ _ => rfl, fun _ _ _ _ _ _ => rfl, fun _ _ _ _ _ _ => rfl, fun _ _ _ _ => rfl, fun _ _ _ _ => rfl⟩
theorem fld_limit : FldOk "limit" := ⟨by decide, fun _ _ _ _ _ _ _ _ _ _ _ _ _ _ _ => rfl, fun _ _ => rfl, fun _ _ _ _ _ _ => rfl, fun _ _ _ _ _ _ => rfl, fun _ _ _ _ => rfl, fun _ _ _ _ => rfl⟩
section
open Builtin Builtin.ObjectAttr
variable {prog : Program} {w : World} {A : Around} {E : Value → Shared → Prop} {R : Result → Shared → Prop} {hp : Heap} {g : Array GenState} {d : Drawn} {t : Nat} {os : OsState}
theorem low_osa {K : W.Frag} {name : Str} {tk : Tok} {v : Value} {x C : Addr} {fv : Array Value} {cd : ClassData} {bmB : List Value} {B newId initId : String} (LB : LowB bmB B newId initId)
    (X : K.In hp) (hx : hp.get? x = some { cls := .ref C, data := .fields fv }) (hcd : W.clsIn K C = some cd) (hm : cd.mro = .ref C :: bmB) (hh : cd.hasDict = true) (ha : W.findIn K (.ref C) name = some none)
    (hq : ∀ h' tk' dx, (∀ b o, b ≠ x → hp.get? b = some o → h'.get? b = some o) → hp.objs.size ≤ dx → dx ≠ x → h'.get? x = some { cls := .ref C, dict := some dx, data := .fields fv } → h'.Ns1 dx (fun y => if y = name then some v else none) → R (.ok (.ret .none)) ⟨h', g, d, tk', os⟩) :
    codeAny (model prog w) A (.call (.builtin "object.__setattr__") ⟨[.ref x, .str name tk, v], []⟩) R ⟨hp, g, d, t, os⟩ := by
  have In : W.InstAt hp x { cls := .ref C, data := .fields fv } C none := ⟨hx, rfl, rfl, trivial⟩
  have SFo := F.store_object
  have hobj : cd.mro.contains (.type "object") = true := by rw [hm, List.contains_cons, LB.ob, Bool.or_true]
  have xne : x ≠ hp.objs.size := Nat.ne_of_lt (Heap.lt_size hx)
  have mne : cd.mro.isEmpty = false := by rw [hm]; rfl
  have subO : W.Looks (model prog w) hp (isInstance (.ref x) (.type "object")) true := In.type.andThen (W.looks_mroIn X (by unfold W.mroIn; rw [hcd, Option.bind_some, if_neg (by rw [mne]; decide), hobj]))
  refine codeAny_call_builtin SFo.slot.plain SFo.entry (@W.check_slot (model prog w) _ _ ⟨hp, g, d, t, os⟩ "object.__setattr__" "object" "__setattr__" (.ref x) [.str name tk, v] [] _ SFo.kind SFo.split subO (SFo.args (.ref x) (.str name tk) v) ?_)
  have hmro : W.Looks (model prog w) hp (mroOf (.ref C)) cd.mro := (W.looks_clsIn X hcd).andThen .now
  have Lst : W.Looks (model prog w) hp (storeTaker? none) none := .now
  have hcl : W.Looks (model prog w) hp (classData C) cd := W.looks_clsIn X hcd
  rw [W.osa_eq, refuse_eq]; refine wpAny_bind (wpAny_bind (In.type.at (wpAny_bind (hmro.at ?_))))
  rw [hm, refuseLoop_ref, LB.ps]
  refine wpAny_pure (wpAny_bind (In.type.at (wpAny_bind ((W.looks_findIn X ha).at (wpAny_bind (Lst.at ?_)))))); show wpAny _ _ (storeInOwnDict (.ref x) (.ref C) (.str name tk) name v false) _ _ _
  obtain ⟨nm, bs, mro, ns, qn, hd, sn, sb, ab, col, del⟩ := cd; dsimp only at hh; subst hh
  unfold storeInOwnDict ownDictForStores
  repeat (first | with_reducible refine store_in_new ?_ ?_ | with_reducible refine wpAny_loadPart_at hx ?_ | with_reducible refine hcl.at ?_ | wp_step)
  · exact ⟨_, #[], _, (Heap.get?_update_ne _ _ _ _ xne.symm).trans (Heap.get?_push_at rfl rfl), rfl, (fun e he => absurd he (by simp)), fun _ => rfl⟩
  · intro h' tk' hn' hs
    have hx1 : (hp.push { cls := .type "dict", data := .dict #[] }).get? x = some { cls := .ref C, data := .fields fv } := Heap.get?_push_of_some _ hx
    refine hq h' tk' hp.objs.size (fun b o hb ho => ?_) (Nat.le_refl _) xne.symm ((hs.2 x xne).trans (Heap.get?_update_self _ hx1 rfl)) hn'
    exact (hs.2 b (Nat.ne_of_lt (Heap.lt_size ho))).trans ((Heap.get?_update_ne _ _ _ _ hb).trans (Heap.get?_push_of_some _ ho))
end
/-- what __init__ leaves of a fresh exception at x -/
structure LowEnd (f : Str) (h h' : Heap) (x C dx t1 : Addr) (v : Value) : Prop where
  kp : ∀ b o, b ≠ x → h.get? b = some o → h'.get? b = some o
  ob : h'.get? x = some { cls := .ref C, dict := some dx, data := .fields #[.ref t1, .none, .none, .none, .bool false, .none] }
  big : h.objs.size ≤ dx
  ne : dx ≠ x
  ns : h'.Ns1 dx (fun y => if y = f then some v else none)
structure LowMade (f : Str) (h h' : Heap) (e C d : Addr) (v : Value) : Prop where
  kp : ∀ b o, h.get? b = some o → h'.get? b = some o
  new : h.objs.size ≤ e
  ob : ∃ oe vs, h'.get? e = some oe ∧ oe.cls = .ref C ∧ oe.dict = some d ∧ oe.data = .fields vs ∧ vs[1]? = some .none
  big : h.objs.size ≤ d
  ne : d ≠ e
  ns : h'.Ns1 d (fun y => if y = f then some v else none)
theorem low_ld {M : Model} {s : Shared} {name : Str} {scope : Scope} {L a : Addr} {cd : Value} {m : Str → Option Value} {x : Str} {pos : Pos} {v : Value} {Q : Value → Shared → Prop} {A : Around} {E : Value → Shared → Prop} (hn : s.heap.Ns L m) (hv : m x = some v) (h : Q v s)
    (hk : scope.kind = .function) (hl : (envOfC name scope L a cd).kindOf x = some .local) (hd : (x == ("__debug__" : Str)) = false) : wpAny M A (eval (.Name x pos) (envOfC name scope L a cd)) Q E s := wpAny_Name (wpAny_loadName_local hk hl hn hv h) hd
section
variable {prog : Program} {w : World} {A : Around} {E : Value → Shared → Prop} {R : Result → Shared → Prop} {s : Shared} {K : Frag} {mg : Str → Option Value} {C fI : Addr} {x f : Str} {bmB : List Value} {B newId initId : String}
theorem low_initG (LB : LowB bmB B newId initId) (hf : FldOk f) (T : LowC K mg x f bmB newId C fI) {xa t0 : Addr} {v : Value} (X : K.In s.heap) (hlim : s.heap.NoLimit) (hx : s.heap.get? xa = some (excO C t0)) (hnx : K.lookup xa = none) (hroom : A.depth < recursionLimit)
    (hq : ∀ h' tk dx, LowEnd f s.heap h' xa C dx t0 v → R (.ok (.ret .none)) { s with heap := h', toks := tk }) : codeAny (model prog w) A (.call (.ref fI) ⟨[.ref xa, v], []⟩) R s := by
  obtain ⟨oc, od, doc, pm, kV, an, cdv, ct, osl, qn, p1, p2, q1, q2, q3, q4, ho, hcd⟩ := T.fn
  obtain ⟨nm, q, N, bs, sn, sub, ab, col, dd, k0, k1, k2, k3, k5, hC⟩ := T.cls
  have hcl : clsIn K C = some { name := nm, bases := bs, mro := .ref C :: bmB, ns := N, qualname := q, hasDict := true, slotNames := sn, subclasses := sub, abstract := ab, collection := col, hasDel := false } := by unfold clsIn; rw [hC] <;> rfl
  refine Att.call_fn (binds := [("self", .ref xa), (f, v)]) X hlim ho hcd hroom (BindsTo.of_eq (hf.bind _ _ _ _ _ _ _ _ _ _ _ _ _ _ _)) (hf.knd _ _) (fun s₁ IC => ?_) rfl rfl rfl
  obtain ⟨h₁, tk₁, rfl⟩ := IC.toInCall.same
  have k : ∀ b o, s.heap.get? b = some o → h₁.get? b = some o := IC.toInCall.keep
  have hn := IC.toInCall.ns
  have X₁ : K.In h₁ := X.keeps k
  have hx₁ := k _ _ hx
  show wpAny _ _ (execs _ _) _ _ _; refine wpAny_execs_cons (plainObj_wpAny_Assign_Attribute ?_)
  refine low_ld (v := v) hn (hf.lkf _ _ _ _ _ _) (low_ld (v := .ref xa) hn (hf.lks _ _ _ _ _ _) ?_ rfl (hf.kds _ _ _ _) (by decide)) rfl (hf.kdf _ _ _ _) hf.dbg
  · refine set_plain X₁ (ox := excO C t0) (od := none) ⟨hx₁, rfl, rfl, trivial⟩ T.sa ?_
    refine low_osa LB X₁ hx₁ hcl rfl rfl T.noN (fun h₃ tk₃ dx k₃ dn dne hx₃ hn₃ => ?_)
    show wpAny _ _ (execs _ _) _ _ _
    have z : s.heap.objs.size < h₁.objs.size := hn.lt
    exact wpAny_execs_nil (hq h₃ tk₃ dx ⟨fun b o hb e => k₃ b o hb (k b o e), hx₃, Nat.le_of_lt (Nat.lt_of_lt_of_le z dn), dne, hn₃⟩)
end
end VL
end
section
set_option Elab.async false
set_option linter.all false
set_option maxRecDepth 100000
set_option maxHeartbeats 2000000
namespace VL
open PySem PySem.W PySem.Calls PyProof.Rows PySem.HandSPX
section
variable {prog : Program} {w : World} {A : Around} {E : Value → Shared → Prop} {R : Result → Shared → Prop} {s : Shared} {K : Frag} {mg : Str → Option Value} {C fI : Addr} {x f : Str} {bmB : List Value} {B newId initId : String}
theorem low_madeG (LB : LowB bmB B newId initId) (hf : FldOk f) (T : LowC K mg x f bmB newId C fI) {v : Value} (X : K.In s.heap) (hlim : s.heap.NoLimit) (hroom : A.depth + 1 < recursionLimit)
    (hq : ∀ h' tk e d, LowMade f s.heap h' e C d v → R (.ok (.ret (.ref e))) { s with heap := h', toks := tk }) : codeAny (model prog w) A (.call (.ref C) ⟨[v], []⟩) R s := by
  obtain ⟨nm, q, N, bs, sn, sub, ab, col, dd, k0, k1, k2, k3, k5, hC⟩ := T.cls
  obtain ⟨hp, g, dr, tk, os⟩ := s
  have kk : ∀ b o, hp.get? b = some o → ((hp.push (kdv_tup [v])).push (excO C hp.objs.size)).get? b = some o := fun b o e => Heap.get?_push_of_some _ (Heap.get?_push_of_some _ e)
  have hgt : ((hp.push (kdv_tup [v])).push (excO C hp.objs.size)).get? (hp.objs.size + 1) = some (excO C hp.objs.size) := by heap_get
  have hnx : K.lookup (hp.objs.size + 1) = none := by
    cases e : K.lookup (hp.objs.size + 1) with
    | none => rfl
    | some o => exact absurd (Nat.lt_of_succ_lt (Heap.lt_size (show hp.get? (hp.objs.size + 1) = some o from X _ _ e))) (Nat.lt_irrefl _)
  refine call_own LB.F (fun _ => rfl) (X _ _ hC) (looks_findIn X T.iC) (fun self => bind_fn X self T.tC) (by rw [sizeLine_eq]; exact (by decide : 1 ≤ 16777216)) ?_
  refine low_initG (s := ⟨(hp.push (kdv_tup [v])).push (excO C hp.objs.size), g, dr, tk, os⟩) LB hf T (X.keeps kk) (hlim.keeps kk) hgt hnx (show A.depth + 1 < recursionLimit from hroom) fun h' tk' dx M => ?_
  have old : ∀ b o, hp.get? b = some o → h'.get? b = some o := fun b o e => M.kp b o (Nat.ne_of_lt (Nat.lt_succ_of_lt (Heap.lt_size e))) (kk b o e)
  have z : hp.objs.size + 1 + 1 ≤ dx := by
    have q := M.big
    first
      | (rw [Heap.size_push, Heap.size_push] at q; exact q)
      | (simpa only [Heap.size_push] using q)
      | exact q
  exact ⟨rfl, hq h' tk' (hp.objs.size + 1) dx ⟨old, Nat.le_succ _, ⟨_, _, M.ob, rfl, rfl, rfl, rfl⟩, Nat.le_trans (Nat.le_trans (Nat.le_succ _) (Nat.le_succ _)) z, M.ne, M.ns⟩⟩
end
end VL
namespace VL
open PySem PySem.Spec PyProof.Rows L2
theorem relO_lowG {f : Str} {v : V} {v' : Value} (r : RelV v v') (y : Str) : RelO (List.lookup y [(f, v)]) (if y = f then some v' else none) := by
  by_cases h : y = f
  · subst h
    rw [if_pos rfl, show List.lookup y [(y, v)] = some v by simp [List.lookup]]
    exact r
  · have hb : (y == f) = false := by simpa using h
    rw [if_neg h, show List.lookup y [(f, v)] = none by simp [List.lookup, hb]]
    trivial
section
variable {X : Cx} {C fI : Addr} {x f : Str} {bmB : List Value} {B newId initId : String}
/-- x(e) -/
def tMkL (f : Str) (C : Addr) (ta : TA) : L2.St → Hp → XK → Prop := fun σ H Q => ta σ H fun vs H1 => ∃ v, vs = [v] ∧ ∀ d, H1 d = none → Q (.ref C) (some d) (upd H1 d (.xd [(f, v)]))
theorem pmk_lowG {a : Expr} {ta : TA} {p pos : Pos} {k : Nat} (LB : LowB bmB B newId initId) (hf : FldOk f) (T : LowC X.K X.mg x f bmB newId C fI) (hr : Room k X.A) (ha : PA X [a] ta) (hg : Gl X x := by rfl) (hdb : (x == ("__debug__" : Str)) = false := by decide)
    (he : starEach (a :: []) X.env = (false, eval a X.env) :: starEach [] X.env := by rfl) (hpl : (backTo pos (starEach [] X.env)).any (·.1) = false := by rfl) : PMk X (.Call (.Name x p) [a] [] pos) (tMkL f C ta) := by
  intro pins s σ H Q I h
  refine wpAny_Call_Name_kw (ld_glob I hg T.gC ?_ hdb)
  refine PySem.W.callWith_K (h₀ := X.base) I.ok.mod.kin T.kC (thn (ha.run pos pins s σ H _ I h) fun us s1 hh => ?_) he hpl
  obtain ⟨vs, H1, I1, r1, v, ev, q1⟩ := hh
  subst ev
  refine ⟨I1.kIn, ?_⟩
  cases r1 with
  | cons rv rn =>
    rename_i v' us'
    cases rn
    show wpAny _ _ (call (.ref C) [v']) _ _ _
    have nl := I1.nolimit
    obtain ⟨hp, g, dr, tk, os⟩ := s1
    refine wpAny_call (low_madeG LB hf T I1.kIn nl (by have := hr.dp; omega) fun h' tk' e d M => ?_)
    show MkP X pins σ Q (.ref e) ⟨h', g, dr, tk', os⟩
    obtain ⟨oe, fv, hoe, hc, hd, hdat, h1⟩ := M.ob
    obtain ⟨G', g1, g2⟩ := restrict h' fun b => decide (b ≠ e)
    have gk : ∀ b, b ≠ e → G'.get? b = h'.get? b := fun b hb => g1 b (decide_eq_true hb)
    have ge : G'.get? e = none := g2 e (by simp)
    have old : ∀ b o, hp.get? b = some o → G'.get? b = some o := fun b o q => (gk b (Nat.ne_of_lt (Nat.lt_of_lt_of_le (Heap.lt_size q) M.new))).trans (M.kp b o q)
    have ob : ObjOk X.prog X.w (upd H1 d (.xd [(f, v)])) G' d (.xd [(f, v)]) := ⟨_, M.ns.at (fun o q => (gk d M.ne).trans q), fun y => relO_lowG rv y⟩
    have J : Inv X pins σ (upd H1 d (.xd [(f, v)])) ⟨G', g, dr, tk', os⟩ := I1.laid (t' := tk') old M.big ob
    refine ⟨e, oe, fv, ⟨G', g, dr, tk', os⟩, _, .ref C, some d, rfl, J, fun b o q => ?_, ge, hoe, ⟨hc, hd⟩, hdat, h1, ?_, rfl, I1.bare, raises_own T.exC T.tyC, q1 d (I1.hok.fresh M.big)⟩
    · by_cases hb : b = e
      · rw [hb, show G'.get? e = none from ge] at q; cases q
      · exact (gk b hb).symm.trans q
    · rw [upd_ne (Ne.symm M.ne)]; exact I1.hok.fresh M.new
/-- n.f, n the exception that the suite holds (at a; its class cls, its dict d) -/
def tByL (f : Str) (C : Addr) (a : Addr) (cls : Value) (d : Option Addr) (te : TE) : TE := fun σ H Q => te σ H fun x H1 => x = .ref a ∧ cls = .ref C ∧ ∃ (dd : Addr) (v : V), d = some dd ∧ H1 dd = some (.xd [(f, v)]) ∧ Q v H1
theorem pe_byLowG {a : Addr} {oe : Obj} {cls : Value} {d : Option Addr} {pn : List (Addr × Obj)} {e : Expr} {te : TE} {pos : Pos} (T : LowC X.K X.mg x f bmB newId C fI) (hz : Zc cls d oe) (hf : ∃ vs, oe.data = .fields vs) (he : PE (X.suite a ((a, oe) :: pn)) e te)
    (hb : attributeBase e f X.env (eval e X.env) = eval e X.env := by rfl) : PE (X.suite a ((a, oe) :: pn)) (.Attribute e f pos) (tByL f C a cls d te) := by
  refine ⟨fun pins s σ H Q I h => ?_⟩
  refine attr_of hb (thn (he.run pins s σ H _ I h) fun u s1 hh => ?_)
  obtain ⟨y, H1, I1, rx, ex, ec, dd, v, ed, ea, q⟩ := hh
  subst ex
  obtain rfl : u = Value.ref a := rx
  subst ec ed
  obtain ⟨ha, _⟩ := I1.pin (a, oe) (List.mem_append_left _ List.mem_cons_self)
  obtain ⟨vs, hd⟩ := hf
  have hxo : ObjOk X.prog X.w H1 s1.heap dd (.xd [(f, v)]) := I1.hok dd _ ea
  obtain ⟨mA, hns, hrr⟩ := hxo
  obtain ⟨od, ho, hl⟩ := lookIn_ns hns
  obtain ⟨u, hu, ru⟩ := RelO.some_of (v := v) (o := mA f) (by rw [← (show List.lookup f [(f, v)] = some v by simp [List.lookup])]; exact hrr f)
  have J : PySem.W.InstAt s1.heap a oe C (some od) := ⟨ha, hz.1, by unfold PySem.W.notCls; rw [hd] <;> rfl, by rw [hz.2]; exact ho⟩
  exact HandSPX.exc_get I1.kIn J T.ga T.gg T.exC (PySem.W.findObj_own T.hdC T.noN rfl (by rw [hl, hu])) (handed_of ru) ⟨v, H1, I1.tok _, ru, q⟩
end
end VL
end
section
set_option Elab.async false
set_option linter.all false
set_option maxRecDepth 100000
namespace VL
open PySem PySem.Spec PyProof.Rows L2
variable [LawTabs]
/-! ### what may be raised: an own exception without, with a value -/
inductive Xc where
  | own (x : Str)
  | low (x f : Str) (p : PyData)
inductive XR where
  | vl (w : Vw) (μ : Mu) | ex (e : Xc) (μ : Mu)
inductive SX where
  | s (r : SR) | ex (e : Xc) (μ : Mu)
abbrev XM := Mu → List Vw → Option XR
abbrev XF := Rho → Mu → Option SX
def XP (K : PySem.W.Frag) (φ : Ph) (H : Hp) (W : XK) : Xc → Mu → Prop
  | .own x, μ' => ∀ φ' H', Grow φ φ' H H' → Cells K φ' H' μ' → W (.ref (He.ga K x)) none H'
  | .low x f p, μ' => ∀ φ' H' d v, Grow φ φ' H H' → Cells K φ' H' μ' → H' d = some (.xd [(f, v)]) → Da K φ'.av H' p v → W (.ref (He.ga K x)) (some d) H'
theorem XP.grow {K : PySem.W.Frag} {φ φ' : Ph} {H H' : Hp} {W : XK} {e : Xc} {μ : Mu} (g : Grow φ φ' H H') (h : XP K φ H W e μ) : XP K φ' H' W e μ := by
  cases e with
  | own x => exact fun φ2 H2 g2 c2 => h φ2 H2 (g.trans g2) c2
  | low x f p => exact fun φ2 H2 d v g2 c2 => h φ2 H2 d v (g.trans g2) c2
def XRP (K : PySem.W.Frag) (φ : Ph) (H : Hp) (Q : VK) (W : XK) : Option XR → Prop
  | some (.vl w μ) => Post K φ H μ w Q
  | some (.ex e μ) => XP K φ H W e μ
  | none => False
theorem XRP.grow {K : PySem.W.Frag} {φ φ' : Ph} {H H' : Hp} {Q : VK} {W : XK} {r : Option XR} (g : Grow φ φ' H H') (h : XRP K φ H Q W r) : XRP K φ' H' Q W r := by
  cases r with
  | none => exact h
  | some r =>
    cases r with
    | vl w μ => exact fun φ2 v2 H2 g2 c2 r2 => h φ2 v2 H2 (g.trans g2) c2 r2
    | ex e μ => exact XP.grow g h
def SXP (K : PySem.W.Frag) (φ : Ph) (H : Hp) (D : Ends) (W : XK) : Option SX → Prop
  | some (.s r) => SPost K φ H D (some r)
  | some (.ex e μ) => XP K φ H W e μ
  | none => False
theorem SXP.grow {K : PySem.W.Frag} {φ φ' : Ph} {H H' : Hp} {D : Ends} {W : XK} {r : Option SX} (g : Grow φ φ' H H') (h : SXP K φ H D W r) : SXP K φ' H' D W r := by
  cases r with
  | none => exact h
  | some r =>
    cases r with
    | s r => exact SPost.grow g h
    | ex e μ => exact XP.grow g h
def tX (K : PySem.W.Frag) (W : XK) (g : XF) : TS := fun D σ H => ∃ φ ρ μ, RS K φ σ H ρ μ ∧ SXP K φ H D W (g ρ μ)
/-! ### defs that may raise -/
def spX (K : PySem.W.Frag) (n : Nat) (m : XM) : Sp := fun vs H Q E => ∃ φ μ ws, Cells K φ H μ ∧ RVs K φ H ws vs ∧ ws.length = n ∧ XRP K φ H Q E (m μ ws)
def fnX (n : Nat) (body : XF) (μ : Mu) (ws : List Vw) : Option XR := match body (ws.map some ++ List.replicate (n - ws.length) none) μ with
  | some (.s (.rt w μ1)) => (frz false μ.length w μ1).map fun r => .vl r.1 r.2
  | some (.s (.nx _ μ1)) => some (.vl (.d .none) (μ1.take μ.length))
  | some (.ex e μ1) => some (.ex e (μ1.take μ.length))
  | _ => none
theorem XP.cut {K : PySem.W.Frag} {φ : Ph} {H : Hp} {W : XK} {e : Xc} {μ μ1 : Mu} (c : Cells K φ H μ) (h : XP K φ H W e (μ1.take μ.length)) : XP K φ H W e μ1 := by
  cases e with
  | own x => exact fun φ2 H2 g2 c2 => h φ H2 (cut_grow g2) (cut_cells c g2 c2)
  | low x f p => exact fun φ2 H2 d v g2 c2 hd r => h φ H2 d v (cut_grow g2) (cut_cells c g2 c2) hd (Da.weak (sub_av g2) p v r)
section
variable {P : Program} {w : World} {K : PySem.W.Frag} {mg : Str → Option Value} {base : Heap}
theorem fnX_ok {x qual : Str} {params : Arguments} {body : List Stmt} {scope : Scope} {kws : List (Str × V)} {f : Addr} {fd : FuncData} {N ps : List Str} {k : Nat} {g : XF} (F : FunD K x qual params body scope [] kws f fd) (S : FnScope N ps scope)
    (h : ∀ (cdv : Value) (A : Around) (outer : List Env) (s : Shared) (H : Hp) (E : XK), Room k (A.deeper (envOfC qual scope s.heap.objs.size f cdv)) → PSs (cxOf (L2.CX P w) P w K mg base N qual scope f cdv A outer s H E) body (tX K E g)) :
    FnOk P w K mg base (L2.CX P w) (k + 1) f fd ps (spX K ps.length (fnX N.length g)) := by
  refine F.ok S (fun vs H Q E ⟨φ, μ, ws, c, r, hl, k⟩ => by rw [← r.len, hl]) fun cdv A outer s H vs Q E hr hsp => ⟨_, h cdv A outer s H E hr, ?_⟩
  obtain ⟨φ, μ, ws, c, r, hl, k⟩ := hsp
  refine ⟨φ, _, μ, rvs_start c r, ?_⟩
  unfold fnX at k
  cases e : g (ws.map some ++ List.replicate (N.length - ws.length) none) μ with
  | none => rw [e] at k; exact k.elim
  | some q =>
    rw [e] at k
    cases q with
    | ex x μ1 => exact XP.cut c k
    | s q =>
      cases q with
      | nx ρ1 μ1 => exact fun φ2 σ2 H2 g2 r2 => k φ .non H2 (cut_grow g2) (cut_cells c g2 r2.c) rfl
      | rt w1 μ1 =>
        cases e2 : frz false μ.length w1 μ1 with
        | none => simp only [e2] at k; exact k.elim
        | some z =>
          simp only [e2] at k
          exact fun φ2 v2 H2 g2 c2 r2 => frz_post c g2 c2 r2 e2 k
      | bk ρ1 μ1 => exact k.elim
      | ct ρ1 μ1 => exact k.elim
/-- what may be called by the name x, and may raise -/
structure CalX (P : Program) (w : World) (K : PySem.W.Frag) (mg : Str → Option Value) (base : Heap) (k : Nat) (x : Str) (n : Nat) (m : XM) : Prop where
  ex : ∃ fd ps, FnOk P w K mg base (L2.CX P w) k (He.ga K x) fd ps (spX K n m) ∧ mg x = some (.ref (He.ga K x)) ∧ PySem.W.keepIn K (.ref (He.ga K x)) = true ∧ Binds K fd ps []
theorem CalX.mono {j k : Nat} {x : Str} {n : Nat} {m : XM} (c : CalX P w K mg base j x n m) (h : j ≤ k) : CalX P w K mg base k x n m := by
  obtain ⟨fd, ps, h1, h2, h3, h4⟩ := c.ex
  exact ⟨fd, ps, h1.mono h, h2, h3, h4⟩
theorem calX_ok {x : Str} {params : Arguments} {body : List Stmt} {scope : Scope} {fd : FuncData} {N ps : List Str} {k : Nat} {g : XF} (hf : mg x = some (.ref (He.ga K x))) (F : FunD K x x params body scope [] [] (He.ga K x) fd) (S : FnScope N ps scope)
    (hb : ∀ (kV doc pm : Value) (an : Option Addr) (cdv ct : Value) (us : List Value), us.length = ps.length → bindArgs (PySem.W.fnOf x x params body scope .none kV doc pm an cdv ct) ⟨us, []⟩ = pure (ps.zip us))
    (h : ∀ (cdv : Value) (A : Around) (outer : List Env) (s : Shared) (H : Hp) (E : XK), Room k (A.deeper (envOfC x scope s.heap.objs.size (He.ga K x) cdv)) → PSs (cxOf (L2.CX P w) P w K mg base N x scope (He.ga K x) cdv A outer s H E) body (tX K E g)) :
    CalX P w K mg base (k + 1) x ps.length (fnX N.length g) := ⟨fd, ps, fnX_ok F S h, hf, F.kp, F.bindsN hb⟩
end
/-- a call whose raising is wished for -/
def tXE (K : PySem.W.Frag) (W : XK) (n : Nat) (m : XM) (fa : AF) : TE := fun σ H Q => ∃ φ ρ μ, RS K φ σ H ρ μ ∧ ∃ ws μ1, fa ρ μ = some (ws, μ1) ∧ ws.length = n ∧ XRP K φ H Q W (m μ1 ws)
section
variable {X : Cx} {W : XK} {k n : Nat} {x : Str} {m : XM} {e : Expr} {es : List Expr} {fa : AF} {p pos : Pos} {st : Stmt} {rest : List Stmt}
theorem xe_call (tk : Takes X (fun cls d _ H => W cls d H)) (c : CalX X.prog X.w X.K X.mg X.base k x n m) (hr : Room k X.A) (ha : PA X (e :: es) (tA X.K fa)) (hg : Gl X x := by rfl) (hdb : (x == ("__debug__" : Str)) = false := by decide)
    (he : starEach (e :: es) X.env = (false, eval e X.env) :: starEach es X.env := by rfl) (hpl : (backTo pos (starEach es X.env)).any (·.1) = false := by rfl) : PE X (.Call (.Name x p) (e :: es) [] pos) (tXE X.K W n m fa) := by
  obtain ⟨fd, ps, F, hm, hk, hb⟩ := c.ex
  refine PE.to (pe_callS (E := fun _ => W) F hr hg hm hk hb (fun σ => passAt tk σ) ha hdb he hpl) fun σ H Q ⟨φ, ρ, μ, rs, ws, μ1, e1, hl, k⟩ => ?_
  exact ⟨φ, ρ, μ, ws, μ1, rs, e1, fun φ1 vs H1 g1 c1 r1 => ⟨φ1, μ1, ws, c1, r1, hl, k.grow g1⟩⟩
@[simp] def xLift (g : SF) (ρ : Rho) (μ : Mu) : Option SX := (g ρ μ).map SX.s
theorem xj_lift {g : SF} (h : PS X st (tS X.K g)) : PS X st (tX X.K W (xLift g)) := PS.to h fun D σ H ⟨φ, ρ, μ, rs, k⟩ => by
  refine ⟨φ, ρ, μ, rs, ?_⟩
  unfold xLift at k
  cases e : g ρ μ with
  | none => rw [e] at k; exact k
  | some r => rw [e] at k; exact k
theorem xss_lift {g : SF} (h : PSs X rest (tS X.K g)) : PSs X rest (tX X.K W (xLift g)) := PSs.to h fun D σ H ⟨φ, ρ, μ, rs, k⟩ => by
  refine ⟨φ, ρ, μ, rs, ?_⟩
  unfold xLift at k
  cases e : g ρ μ with
  | none => rw [e] at k; exact k
  | some r => rw [e] at k; exact k
@[simp] def xOwn (x : Str) (_ : Rho) (μ : Mu) : Option SX := some (.ex (.own x) μ)
@[simp] def xLow (x f : Str) (g : EF) (ρ : Rho) (μ : Mu) : Option SX := match g ρ μ with
  | some (.d p, μ1) => some (.ex (.low x f p) μ1)
  | _ => none
@[simp] def xSeq (g h : XF) (ρ : Rho) (μ : Mu) : Option SX := match g ρ μ with
  | some (.s (.nx ρ1 μ1)) => h ρ1 μ1
  | r => r
@[simp] def xIf (t : BF) (g h : XF) (ρ : Rho) (μ : Mu) : Option SX := match t ρ μ with
  | some (true, μ1) => g ρ μ1
  | some (false, μ1) => h ρ μ1
  | none => none
@[simp] def xDrop (n : Nat) (m : XM) (fa : AF) (ρ : Rho) (μ : Mu) : Option SX := match fa ρ μ with
  | some (ws, μ1) => if ws.length = n then (match m μ1 ws with
    | some (.vl _ μ2) => some (.s (.nx ρ μ2))
    | some (.ex e μ2) => some (.ex e μ2)
    | none => none) else none
  | none => none
@[simp] def xRet (n : Nat) (m : XM) (fa : AF) (ρ : Rho) (μ : Mu) : Option SX := match fa ρ μ with
  | some (ws, μ1) => if ws.length = n then (match m μ1 ws with
    | some (.vl w μ2) => some (.s (.rt w μ2))
    | some (.ex e μ2) => some (.ex e μ2)
    | none => none) else none
  | none => none
theorem xss_one {g : XF} (h : PS X st (tX X.K W g)) : PSs X [st] (tX X.K W g) := pss_one h
theorem xss_nil : PSs X [] (tX X.K W (xLift sNx)) := xss_lift ssj_nil
theorem xss_cons {g h : XF} (h1 : PS X st (tX X.K W g)) (h2 : PSs X rest (tX X.K W h)) : PSs X (st :: rest) (tX X.K W (xSeq g h)) := PSs.to (pss_cons h1 h2) fun D σ H ⟨φ, ρ, μ, rs, k⟩ => by
  refine ⟨φ, ρ, μ, rs, ?_⟩
  unfold xSeq at k
  cases e : g ρ μ with
  | none => rw [e] at k; exact k
  | some r =>
    rw [e] at k
    cases r with
    | ex x μ1 => exact k
    | s r =>
      cases r with
      | nx ρ1 μ1 => exact fun φ1 σ1 H1 g1 r1 => ⟨φ1, ρ1, μ1, r1, k.grow g1⟩
      | rt w μ1 => exact k
      | bk ρ1 μ1 => exact k
      | ct ρ1 μ1 => exact k
theorem xj_if {c : Expr} {a b : List Stmt} {t : BF} {g h : XF} (hc : PT X c (tT X.K t)) (ha : PSs X a (tX X.K W g)) (hb : PSs X b (tX X.K W h)) : PS X (.If c a b pos) (tX X.K W (xIf t g h)) := PS.to (ps_if hc ha hb) fun D σ H ⟨φ, ρ, μ, rs, k⟩ => by
  unfold xIf at k
  cases e1 : t ρ μ with
  | none => rw [e1] at k; exact k.elim
  | some r =>
    obtain ⟨d, μ1⟩ := r
    rw [e1] at k
    refine ⟨φ, ρ, μ, d, μ1, rs, e1, fun φ1 H1 g1 c1 => ?_⟩
    cases d with
    | true =>
      refine L2.iteT ?_
      exact ⟨φ1, ρ, μ1, rs.step g1 c1, SXP.grow g1 k⟩
    | false =>
      refine L2.iteF ?_
      exact ⟨φ1, ρ, μ1, rs.step g1 c1, SXP.grow g1 k⟩
theorem xj_expr (h : PE X e (tXE X.K W n m fa)) (hs : swapsWith e none pos.line X.env = pure false := by rfl) : PS X (.Expr e pos) (tX X.K W (xDrop n m fa)) := PS.to (ps_expr h hs) fun D σ H ⟨φ, ρ, μ, rs, k⟩ => by
  unfold xDrop at k
  split at k
  · rename_i ws μ1 e1
    split at k
    · rename_i hl
      refine ⟨φ, ρ, μ, rs, ws, μ1, e1, hl, ?_⟩
      cases e2 : m μ1 ws with
      | none => simp only [e2] at k; exact k.elim
      | some r =>
        simp only [e2] at k
        cases r with
        | vl w μ2 => exact fun φ1 v1 H1 g1 c1 r1 => k φ1 σ H1 g1 (rs.step g1 c1)
        | ex x μ2 => exact k
    · exact k.elim
  · exact k.elim
theorem xj_ret (h : PE X e (tXE X.K W n m fa)) : PS X (.Return (some e) pos) (tX X.K W (xRet n m fa)) := PS.to (ps_ret h) fun D σ H ⟨φ, ρ, μ, rs, k⟩ => by
  unfold xRet at k
  split at k
  · rename_i ws μ1 e1
    split at k
    · rename_i hl
      refine ⟨φ, ρ, μ, rs, ws, μ1, e1, hl, ?_⟩
      cases e2 : m μ1 ws with
      | none => simp only [e2] at k; exact k.elim
      | some r =>
        simp only [e2] at k
        cases r with
        | vl w μ2 => exact k
        | ex x μ2 => exact k
    · exact k.elim
  · exact k.elim
/-- what the top says of an own exception that keeps nothing -/
structure OwnE (K : PySem.W.Frag) (mg : Str → Option Value) (x : Str) : Prop where
  gl : mg x = some (.ref (He.ga K x))
  ok : (He.Fa.exc x).ok K = true
theorem xj_raise_own {ms : Str} {j : Nat} {p2 pos2 : Pos} (hc : X.calm = true) (tk : Takes X (fun cls d _ H => W cls d H)) (o : OwnE X.K X.mg x) (hg : Gl X x := by rfl) (hdb : (x == ("__debug__" : Str)) = false := by decide) :
    PS X (.Raise (some (.Call (.Name x p) [.Constant (.str ms) j p2] [] pos)) none pos2) (tX X.K W (xOwn x)) := by
  obtain ⟨q1, q2, q3, q4⟩ := He.exc_ok o.ok
  exact PS.to (ps_raise hc tk (pmk_own PySem.F.excBase_ValueError q1 o.gl q2 (raises_own q3 q4) hg hdb)) fun D σ H ⟨φ, ρ, μ, rs, k⟩ => k φ H (.refl _ _) rs.c
theorem xj_raise_low {f : Str} {bmB : List Value} {B newId initId : String} {fI : Addr} {g : EF} {pos2 : Pos} (hc : X.calm = true) (tk : Takes X (fun cls d _ H => W cls d H)) (LB : LowB bmB B newId initId) (hf : FldOk f) (T : LowC X.K X.mg x f bmB newId (He.ga X.K x) fI) (hr : Room k X.A) (he : PE X e (tE X.K g)) (hg : Gl X x := by rfl) (hdb : (x == ("__debug__" : Str)) = false := by decide)
    (hs : starEach [e] X.env = (false, eval e X.env) :: starEach [] X.env := by rfl) (hpl : (backTo pos (starEach [] X.env)).any (·.1) = false := by rfl) : PS X (.Raise (some (.Call (.Name x p) [e] [] pos)) none pos2) (tX X.K W (xLow x f g)) :=
  PS.to (ps_raise hc tk (pmk_lowG LB hf T hr (aj_cons he aj_nil hs) hg hdb hs hpl)) fun D σ H ⟨φ, ρ, μ, rs, k⟩ => by
    unfold xLow at k
    split at k
    · rename_i p μ1 e1
      refine ⟨φ, ρ, μ, [.d p], μ1, rs, by unfold aCons aNil; rw [e1]; rfl, fun φ1 vs H1 g1 c1 r1 => ?_⟩
      obtain ⟨v, rfl, r2⟩ := rvs1 r1
      exact ⟨v, rfl, fun d hd => k φ1 _ d v (g1.trans (Grow.laid hd)) (c1.laid hd) upd_same (Da.step (Grow.laid hd).w p v r2)⟩
    · exact k.elim
end
end VL
end
section
set_option Elab.async false
set_option linter.all false
set_option maxRecDepth 100000
namespace VL
open PySem PySem.Spec PyProof.Rows L2
/-! ### try with several clauses, some with a name -/
abbrev Cl : Type := Value × Option Nat × (Addr → Value → Option Addr → TS)
def slotOff (i : Nat) (D : Ends) : Ends := { nx := fun σ' H' => D.nx (σ'.set i none) H', rt := D.rt, bk := fun σ' H' => D.bk (σ'.set i none) H', ct := fun σ' H' => D.ct (σ'.set i none) H' }
def wMix (K : PySem.W.Frag) (Wo : WX) (D : Ends) : List Cl → WX
  | [] => Wo
  | (c, none, ts) :: r => fun cls d σ H => ∃ b, PySem.W.exmOne K cls c = some b ∧ (b = true → ∀ a, H a = none → ts a cls d D σ H) ∧ (b = false → wMix K Wo D r cls d σ H)
  | (c, some i, ts) :: r => fun cls d σ H => ∃ b, PySem.W.exmOne K cls c = some b ∧ (b = true → ∀ a, H a = none → ts a cls d (slotOff i D) (σ.set i (some (.ref a))) H) ∧ (b = false → wMix K Wo D r cls d σ H)
inductive MixOk (X : Cx) : List ExceptHandler → List Cl → Prop
  | nil : MixOk X [] []
  | only {x : Str} {c : Value} {ts : Addr → Value → Option Addr → TS} {b0 : Stmt} {su : List Stmt} {np p' : Pos} {hds : List ExceptHandler} {l : List Cl} (hc : Names X x c)
      (hsu : ∀ (a : Addr) (oe : Obj) (cls : Value) (d : Option Addr) (pn : List (Addr × Obj)), Zc cls d oe → (∃ vs, oe.data = .fields vs) → PSs (X.suite a ((a, oe) :: pn)) (b0 :: su) (ts a cls d)) (r : MixOk X hds l) :
      MixOk X (.ExceptHandler (some (.Name x np)) none (b0 :: su) p' :: hds) ((c, none, ts) :: l)
  | named {x n : Str} {i : Nat} {c : Value} {ts : Addr → Value → Option Addr → TS} {b0 : Stmt} {su : List Stmt} {np p' : Pos} {hds : List ExceptHandler} {l : List Cl} (hc : Names X x c) (hi : X.N[i]? = some n) (hln : X.env.kindOf n = some .local)
      (hsu : ∀ (a : Addr) (oe : Obj) (cls : Value) (d : Option Addr) (pn : List (Addr × Obj)), Zc cls d oe → (∃ vs, oe.data = .fields vs) → PSs (X.suite a ((a, oe) :: pn)) (b0 :: su) (ts a cls d)) (r : MixOk X hds l) :
      MixOk X (.ExceptHandler (some (.Name x np)) (some n) (b0 :: su) p' :: hds) ((c, some i, ts) :: l)
section
variable {X : Cx} {body : List Stmt} {h0 : ExceptHandler} {hds : List ExceptHandler} {l : List Cl} {pos : Pos} {tb : WX → TS} {Wo : WX}
theorem ps_try_mix (hst : X.stack = X.env :: X.outer) (hfm : X.env.frame = some X.env.locals) (hN : X.N.Nodup) (tk : Takes X Wo)
    (hb : ∀ (W : WX) (pn : List (Addr × Obj)) (xe : Value → Shared → Prop), Takes (X.tr pn xe) W → PassesOwn (model X.prog X.w) X.A X.env xe → PSs (X.tr pn xe) body (tb W))
    (hh : MixOk X (h0 :: hds) l) : PS X (.Try body (h0 :: hds) [] [] pos) (fun D σ H => tb (wMix X.K Wo D l) D σ H) := by
  refine ⟨fun pins s σ H D In hyp => ?_⟩
  have oX := In.ok
  have hframes : X.A.frames = some (X.env :: X.outer) := by rw [oX.frames, hst]
  refine wpAny_Try_except ?_
  refine wpAny_mono ((hb (wMix X.K Wo D l) (X.pn ++ pins) (fun e s₁ => wpAny (model X.prog X.w) X.A (noteFrame e X.env) (fun _ s₂ => wpAny (model X.prog X.w) X.A (setFlight e none) (fun _ s₃ => wpAny (model X.prog X.w) X.A (handleBy e X.env (h0 :: hds)) (SP X pins D) X.xe s₃) X.xe s₂) X.xe s₁) (fun u s' xx => ?_) PassesOwn.looking).run [] s σ H D (In.toTry _) hyp) (fun f s1 hsp => ?_) (fun e s1 he => he)
  · obtain ⟨a, B, sI, pins', σ', H', cls, d, rfl, Jt, nb, up, sky, na, os, ag, w⟩ := xx
    have J : L2.Inv X pins σ' H' sI := Jt.ofTry oX
    have skyB : Sky B (X.env :: X.outer) a (Zc cls d) X.env.locals s'.heap := by rw [← hst]; exact sky
    show wpAny (model X.prog X.w) X.A (noteFrame (.ref a) X.env) _ _ _; refine Sky.land Zc.steady hframes hfm skyB fun h3 fl3 up3 => ?_
    have J3 : L2.Inv X pins σ' H' { s' with heap := h3 } := J.landed nb fl3.1 (up.trans up3) os ag
    obtain ⟨oe3, vs3, he3, hz3, hd3⟩ := fl3.there
    have nfr : a ∉ frs (X.env :: X.outer) := fun hm => by
      obtain ⟨_, o', e', hnf⟩ := fl3.2.2.1.mem hm
      rw [he3] at e'; cases e'; exact hnf _ hd3
    have nLoc : a ≠ X.env.locals := fun z => nfr (List.mem_filterMap.mpr ⟨X.env, List.mem_cons_self, by rw [hfm, z]⟩)
    have nFs : a ∉ X.fs := fun hm => by
      obtain ⟨e, he, q⟩ := List.mem_filterMap.mp hm; exact nfr (List.mem_filterMap.mpr ⟨e, List.mem_cons_of_mem _ he, q⟩)
    have S3 := J3.suite he3 hd3 na nLoc nFs
    have LT : PySem.W.Looks (model X.prog X.w) h3 (typeOf (.ref a)) cls := fun A Q E s k q => wpAny_typeOf_ref (k _ _ he3) (by rw [hz3.1]; exact q)
    have look : ∀ {x : Str} {c : Value} {np : Pos}, Names X x c → ∀ {Q : Value → Shared → Prop} {E : Value → Shared → Prop}, Q c { s' with heap := h3 } → wpAny (model X.prog X.w) (X.A.mark (some (.ref a))) (eval (.Name x np) X.env) Q E { s' with heap := h3 } := fun {x c np} hc {Q E} q => by
      obtain ⟨hg, hdbg, hm | ⟨hm, hv, hnn⟩⟩ := hc
      · exact ld_glob (X := X.suite a ((a, oe3) :: (X.pn ++ pins))) S3 hg hm q hdbg
      · exact ld_blt (X := X.suite a ((a, oe3) :: (X.pn ++ pins))) S3 hg hm hv q hnn hdbg
    have go : ∀ {hds' : List ExceptHandler} {l' : List Cl}, MixOk X hds' l' → wMix X.K Wo D l' cls d σ' H' → wpAny (model X.prog X.w) X.A (handleBy (.ref a) X.env hds') (SP X pins D) X.xe { s' with heap := h3 } := by
      intro hds' l' hk
      induction hk with
      | nil =>
        intro w
        refine wpAny_handleBy_nil ?_
        obtain ⟨k1, k2, k3, oe, vs, T, oT, ts', he, hz, hd, h1, hr⟩ := id fl3
        unfold PySem.passOn; refine wpAny_bind (wpAny_field he hd h1 ?_)
        rw [if_neg (show ¬ ((Value.ref T == Value.none) = true) by simp)]
        have fin : wpAny (model X.prog X.w) X.A (setFlight (.ref a) X.env.frame) (fun _ s4 => wpAny (model X.prog X.w) X.A (throw (.ref a) : Sem Flow) (SP X pins D) X.xe s4) X.xe { s' with heap := h3 } := by
          rw [hfm]; refine HandSPX.setFlight_upZ fl3 fun h4 hh4 up4 => wpAny_throw (tk _ _ ⟨a, B, sI, pins, σ', H', cls, d, rfl, J, nb, (up.trans up3).trans up4, .inr (.inr (by rw [hst]; exact hh4)), na, os, ag, w⟩)
        first
          | exact wpAny_bind (wpAny_pure (wpAny_bind fin))
          | exact wpAny_bind fin
      | @only x c ts b0 su np p' hds2 l2 hc hsu r ih =>
        intro w
        obtain ⟨b, hb1, hyes, hno⟩ := w
        refine wpAny_handleBy_cons (codeAny_handlers_test ?_) (by intro q; cases q); refine look hc ((PySem.W.exm_one (M := model X.prog X.w) (J3.kIn) LT hb1).here ?_)
        cases b with
        | false => show wpAny _ X.A (handleBy (.ref a) X.env hds2) _ _ _; exact ih (hno rfl)
        | true =>
          refine codeAny_handlers_suite (HandSPX.lands_againZ fl3 fun h4 fl4 up4 => ?_)
          have J4 : L2.Inv X pins σ' H' { s' with heap := h4 } := J.landed nb fl4.1 ((up.trans up3).trans up4) os ag
          obtain ⟨oe4, vs4, he4, hz4, hd4⟩ := fl4.there
          have S4 := J4.suite he4 hd4 na nLoc nFs
          refine wpAny_mono ((hsu a oe4 cls d (X.pn ++ pins) hz4 ⟨_, hd4⟩).run [] _ _ H' _ S4 (hyes rfl a na)) (fun f s6 hsp => ?_) (fun _ _ z => False.elim z)
          cases f with
          | ret u => obtain ⟨v6, σ6, H6, S6, r6, q6⟩ := hsp; exact ⟨_, _, _, S6.unsuite oX, r6, q6⟩
          | next => obtain ⟨σ6, H6, S6, q6⟩ := hsp; exact ⟨_, _, S6.unsuite oX, q6⟩
          | brk => obtain ⟨σ6, H6, S6, q6⟩ := hsp; exact ⟨_, _, S6.unsuite oX, q6⟩
          | cont => obtain ⟨σ6, H6, S6, q6⟩ := hsp; exact ⟨_, _, S6.unsuite oX, q6⟩
      | @named x n i c ts b0 su np p' hds2 l2 hc hi hln hsu r ih =>
        intro w
        obtain ⟨b, hb1, hyes, hno⟩ := w
        refine wpAny_handleBy_cons (codeAny_handlers_test ?_) (by intro q; cases q); refine look hc ((PySem.W.exm_one (M := model X.prog X.w) (J3.kIn) LT hb1).here ?_)
        cases b with
        | false => show wpAny _ X.A (handleBy (.ref a) X.env hds2) _ _ _; exact ih (hno rfl)
        | true =>
          refine codeAny_handlers_suite_as (HandSPX.lands_againZ fl3 fun h4 fl4 up4 => ?_)
          have J4 : L2.Inv X pins σ' H' { s' with heap := h4 } := J.landed nb fl4.1 ((up.trans up3).trans up4) os ag
          obtain ⟨oe4, vs4, he4, hz4, hd4⟩ := fl4.there
          have S4 := J4.suite he4 hd4 na nLoc nFs
          have hloc : Loc X.env.scope n := .inl hln
          refine store_ok (X := X.suite a ((a, oe4) :: (X.pn ++ pins))) (v := .ref a) S4 hN hi hloc rfl (fun s5 S5 => ?_) (.inr hln)
          refine wpAny_mono ((hsu a oe4 cls d (X.pn ++ pins) hz4 ⟨_, hd4⟩).run [] s5 _ H' _ S5 (hyes rfl a na)) (fun f s6 hsp => ?_) (fun _ _ z => False.elim z)
          have fin6 : ∀ {σ6 : L2.St} {H6 : Hp} {Q : Shared → Prop}, L2.Inv (X.suite a ((a, oe4) :: (X.pn ++ pins))) [] σ6 H6 s6 → (∀ s7, L2.Inv X pins (σ6.set i none) H6 s7 → Q s7) →
              wpAny (model X.prog X.w) X.A (do bindName X.env n .none; unbindBehindTheSuite X.env n p') (fun _ s7 => Q s7) X.xe s6 := fun {σ6 H6 Q} S6 hq => gone_ok (S6.unsuite oX) hN hi hln hq
          cases f with
          | ret u => obtain ⟨v6, σ6, H6, S6, r6, q6⟩ := hsp; exact fin6 S6 fun s7 J7 => ⟨_, _, _, J7, r6, q6⟩
          | next => obtain ⟨σ6, H6, S6, q6⟩ := hsp; exact fin6 S6 fun s7 J7 => ⟨_, _, J7, q6⟩
          | brk => obtain ⟨σ6, H6, S6, q6⟩ := hsp; exact fin6 S6 fun s7 J7 => ⟨_, _, J7, q6⟩
          | cont => obtain ⟨σ6, H6, S6, q6⟩ := hsp; exact fin6 S6 fun s7 J7 => ⟨_, _, J7, q6⟩
    exact go hh w
  · cases f with
    | next => obtain ⟨σ', H', J', q⟩ := hsp; exact wpAny_execs_nil ⟨σ', H', J'.ofTry oX, q⟩
    | brk => obtain ⟨σ', H', J', q⟩ := hsp; exact ⟨σ', H', J'.ofTry oX, q⟩
    | cont => obtain ⟨σ', H', J', q⟩ := hsp; exact ⟨σ', H', J'.ofTry oX, q⟩
    | ret u => obtain ⟨v, σ', H', J', r, q⟩ := hsp; exact ⟨v, σ', H', J'.ofTry oX, r, q⟩
end
end VL
end
section
set_option Elab.async false
set_option linter.all false
set_option maxRecDepth 100000
namespace VL
open PySem PySem.Spec PyProof.Rows L2
variable [LawTabs]
/-! ### comprehensions with two clauses -/
open Classical in
noncomputable def lcM2 (t : TF) (tt : BF) (fi1 : IF) (t1 : TF) (tt1 : BF) (fe : EF) (vs1 : List Nat) (src : Option Nat) (all : List PyData) : List PyData → Rho → Mu → Option (List PyData × Mu)
  | [], ρ, μ => if srcOk src all μ then some ([], μ) else none
  | d :: ds, ρ, μ => if srcOk src all μ then (match t (.d d) ρ with
    | none => none
    | some ρ1 => match tt ρ1 μ with
      | some (true, μ1) => (match fi1 ρ1 μ1 with
        | some (ds1, src1, μ2) => (match lcM t1 tt1 fe src1 ds1 ds1 (wipeR ρ1 vs1) μ2 with
          | some (ps1, μ3) => (lcM2 t tt fi1 t1 tt1 fe vs1 src all ds ρ μ3).map fun r => (ps1 ++ r.1, r.2)
          | none => none)
        | none => none)
      | some (false, μ1) => lcM2 t tt fi1 t1 tt1 fe vs1 src all ds ρ μ1
      | none => none)
    else none
@[simp] noncomputable def eLc2 (fi : IF) (t : TF) (tt : BF) (fi1 : IF) (t1 : TF) (tt1 : BF) (fe : EF) (vs vs1 : List Nat) (ρ : Rho) (μ : Mu) : Option (Vw × Mu) := match fi ρ μ with
  | some (ds, src, μ1) => (match lcM2 t tt fi1 t1 tt1 fe vs1 src ds ds (wipeR ρ vs) μ1 with
    | some (ps, μ2) => if ps.length ≤ 1000000 then some (.d (.list ps), μ2) else none
    | none => none)
  | none => none
/-- the inner loop -/
theorem lc_in {K : PySem.W.Frag} {t : TF} {tt : BF} {fe : EF} {src : Option Nat} {ds : List PyData} {ws vs : List Nat} {J : It} {φ0 φ : Ph} {H0 H : Hp} {σ : L2.St} {ρ : Rho} {μ μ9 : Mu} {acc ps : List PyData} {D : Addr} {Qd : Hp → Prop}
    (l0 : LcAt K φ0 φ H0 H D μ acc) (hD : H0 D = none) (rs : RS K φ σ H ρ μ) (wk : Wk K φ H ds src J)
    (hvs : ∀ i ∈ ws, i ∈ vs) (e : lcM t tt fe src ds ds (wipeR ρ vs) μ = some (ps, μ9)) (hlen : (acc ++ ps).length ≤ 1000000) (hd : ∀ φ2 H2, LcAt K φ0 φ2 H0 H2 D μ9 (acc ++ ps) → Qd H2) :
    ∃ W : Nat → Nat → Hp → Prop, (∃ m, W 0 m H) ∧ ∀ i m H, W i m H →
      (J.stop i H ∧ Qd H) ∨ (J.go i H ∧ ∃ Nx : Hp → Prop, (∀ H', Nx H' → ∃ m', m' < m ∧ W (i + 1) m' H') ∧ ∀ x H', J.yld i H x H' → tG K t ws x (L2.wipe σ vs) H' fun σ2 H2 => L2.wipe σ2 vs = L2.wipe σ vs ∧ tT K tt σ2 H2 fun b H3 =>
        if b = true then tE K fe σ2 H3 fun y H4 => ∃ acc, H4 D = some (.lst acc) ∧ acc.length < sizeLine ∧ Nx (upd H4 D (.lst (acc ++ [y]))) else Nx H3) := by
  refine ⟨fun i m H' => m = ds.length - i ∧ ∃ φ2 μ2 acc2 rest, LcAt K φ0 φ2 H0 H' D μ2 acc2 ∧ GrowW φ φ2 H H' ∧ lcM t tt fe src ds (ds.drop i) (wipeR ρ vs) μ2 = some (rest, μ9) ∧ acc2 ++ rest = acc ++ ps, ⟨_, rfl, _, μ, acc, ps, l0, (Grow.refl φ H).w, e, rfl⟩, ?_⟩
  rintro i m H2 ⟨rfl, φ2, μ2, acc2, rest, l, gw, e2, eps⟩
  cases hdi : ds.drop i with
  | nil =>
    rw [hdi] at e2
    unfold lcM at e2
    split at e2
    · rename_i hsrc
      cases e2
      rw [List.append_nil] at eps
      subst eps
      exact .inl ⟨(wk φ2 H2 _ gw l.c hsrc i).2 (List.drop_eq_nil_iff.mp hdi), hd φ2 H2 l⟩
    · cases e2
  | cons d r =>
    rw [hdi] at e2
    have hil : i < ds.length := by
      by_cases z : i < ds.length
      · exact z
      · rw [List.drop_eq_nil_iff.mpr (by omega)] at hdi; cases hdi
    have hdg : ds[i]? = some d := by
      have := List.getElem?_drop (xs := ds) (i := i) (j := 0)
      rw [hdi] at this
      simpa using this.symm
    have hdr : ds.drop (i + 1) = r := by
      have : (ds.drop i).drop 1 = ds.drop (i + 1) := by rw [List.drop_drop]
      rw [← this, hdi]; rfl
    unfold lcM at e2
    split at e2
    · rename_i hsrc
      obtain ⟨go, hy⟩ := (wk φ2 H2 μ2 gw l.c hsrc i).1 d hdg
      refine .inr ⟨go, fun H' => ∃ φ2 μ2 acc2 rest, LcAt K φ0 φ2 H0 H' D μ2 acc2 ∧ GrowW φ φ2 H H' ∧ lcM t tt fe src ds (ds.drop (i + 1)) (wipeR ρ vs) μ2 = some (rest, μ9) ∧ acc2 ++ rest = acc ++ ps, fun H' hN => ⟨ds.length - (i + 1), by omega, rfl, hN⟩, fun x H3 hyl => ?_⟩
      obtain ⟨g3, c3, hx⟩ := hy x H3 hyl
      have l3 := l.step g3 c3
      have gw3 := gw.trans g3.w
      split at e2
      · cases e2
      · rename_i ρ3 e3
        have rs3 : RS K φ2 (L2.wipe σ vs) H3 (wipeR ρ vs) μ2 := (rs.wipe vs).step gw3 c3
        refine ⟨φ2, _, μ2, .d d, ρ3, rs3, hx, e3, fun σ4 rs4 w4 => ⟨?_, ?_⟩⟩
        · rw [w4 vs hvs]
          exact wipe_same fun i hi z hz => (wipe_some hz).2 hi
        · split at e2
          · rename_i μ4 e4
            refine ⟨φ2, ρ3, μ2, true, μ4, rs4, e4, fun φ5 H5 g5 c5 => L2.iteT ?_⟩
            have l5 := l3.step g5 c5
            have gw5 := gw3.trans g5.w
            split at e2
            · rename_i p μ6 e6
              obtain ⟨⟨rest', μ7⟩, e7, e8⟩ := Option.map_eq_some_iff.mp e2
              cases e8
              refine ⟨φ5, ρ3, μ4, .d p, μ6, rs4.step g5.w c5, e6, fun φ8 y H8 g8 c8 r8 => ?_⟩
              have l8 := l5.step g8 c8
              obtain ⟨xs, hx1, hx2, l9⟩ := l8.add hD r8
              refine ⟨xs, hx1, ?_, φ8, μ6, acc2 ++ [p], rest', l9, (gw5.trans g8.w).trans (GrowW.wr l8.mem hx1), by rw [hdr]; exact e7, by rw [List.append_assoc]; exact eps⟩
              have : (acc2 ++ p :: rest').length ≤ 1000000 := by rw [show acc2 ++ p :: rest' = acc ++ ps from eps]; exact hlen
              rw [List.length_append, List.length_cons] at this
              exact size_lt (by omega)
            · cases e2
          · rename_i μ4 e4
            refine ⟨φ2, ρ3, μ2, false, μ4, rs4, e4, fun φ5 H5 g5 c5 => L2.iteF ?_⟩
            exact ⟨φ5, μ4, acc2, rest, l3.step g5 c5, gw3.trans g5.w, by rw [hdr]; exact e2, eps⟩
          · cases e2
    · cases e2
/-- the loop of both clauses -/
theorem lc2_loop {K : PySem.W.Frag} {t t1 : TF} {tt tt1 : BF} {fi1 : IF} {fe : EF} {src : Option Nat} {ds : List PyData} {ws ws1 vs vs1 : List Nat} {J : It} {φ : Ph} {H : Hp} {σ : L2.St} {ρ : Rho} {μ μ9 : Mu} {ps : List PyData} {D : Addr} {Qd : Hp → Prop} (rs : RS K φ σ H ρ μ) (wk : Wk K φ H ds src J) (hD : H D = none)
    (hvs : ∀ i ∈ ws, i ∈ vs) (hvs1 : ∀ i ∈ ws1, i ∈ vs1) (e : lcM2 t tt fi1 t1 tt1 fe vs1 src ds ds (wipeR ρ vs) μ = some (ps, μ9)) (hlen : ps.length ≤ 1000000) (hd : ∀ φ2 H2, LcAt K φ φ2 H H2 D μ9 ps → Qd H2) :
    ∃ W : Nat → Nat → Hp → Prop, (∃ m, W 0 m (upd H D (.lst []))) ∧ ∀ i m H, W i m H →
      (J.stop i H ∧ Qd H) ∨ (J.go i H ∧ ∃ Nx : Hp → Prop, (∀ H', Nx H' → ∃ m', m' < m ∧ W (i + 1) m' H') ∧ ∀ x H', J.yld i H x H' → tG K t ws x (L2.wipe σ vs) H' fun σ2 H2 => L2.wipe σ2 vs = L2.wipe σ vs ∧ tT K tt σ2 H2 fun b H3 =>
        if b = true then tI K fi1 σ2 H3 fun J1 H4 => ∃ W1 : Nat → Nat → Hp → Prop, (∃ m, W1 0 m H4) ∧ ∀ j k H, W1 j k H →
          (J1.stop j H ∧ Nx H) ∨ (J1.go j H ∧ ∃ Nx1 : Hp → Prop, (∀ H', Nx1 H' → ∃ k', k' < k ∧ W1 (j + 1) k' H') ∧ ∀ x H', J1.yld j H x H' → tG K t1 ws1 x (L2.wipe σ2 vs1) H' fun σ3 H5 => L2.wipe σ3 vs1 = L2.wipe σ2 vs1 ∧ tT K tt1 σ3 H5 fun b H6 =>
            if b = true then tE K fe σ3 H6 fun y H7 => ∃ acc, H7 D = some (.lst acc) ∧ acc.length < sizeLine ∧ Nx1 (upd H7 D (.lst (acc ++ [y]))) else Nx1 H6)
        else Nx H3) := by
  refine ⟨fun i m H' => m = ds.length - i ∧ ∃ φ2 μ2 acc rest, LcAt K φ φ2 H H' D μ2 acc ∧ lcM2 t tt fi1 t1 tt1 fe vs1 src ds (ds.drop i) (wipeR ρ vs) μ2 = some (rest, μ9) ∧ acc ++ rest = ps, ⟨_, rfl, _, μ, [], ps, LcAt.start rs.c hD, e, rfl⟩, ?_⟩
  rintro i m H2 ⟨rfl, φ2, μ2, acc, rest, l, e2, eps⟩
  cases hdi : ds.drop i with
  | nil =>
    rw [hdi] at e2
    unfold lcM2 at e2
    split at e2
    · rename_i hsrc
      cases e2
      rw [List.append_nil] at eps
      subst eps
      exact .inl ⟨(wk φ2 H2 _ l.g.w l.c hsrc i).2 (List.drop_eq_nil_iff.mp hdi), hd φ2 H2 l⟩
    · cases e2
  | cons d r =>
    rw [hdi] at e2
    have hil : i < ds.length := by
      by_cases z : i < ds.length
      · exact z
      · rw [List.drop_eq_nil_iff.mpr (by omega)] at hdi; cases hdi
    have hdg : ds[i]? = some d := by
      have := List.getElem?_drop (xs := ds) (i := i) (j := 0)
      rw [hdi] at this
      simpa using this.symm
    have hdr : ds.drop (i + 1) = r := by
      have : (ds.drop i).drop 1 = ds.drop (i + 1) := by rw [List.drop_drop]
      rw [← this, hdi]; rfl
    unfold lcM2 at e2
    split at e2
    · rename_i hsrc
      obtain ⟨go, hy⟩ := (wk φ2 H2 μ2 l.g.w l.c hsrc i).1 d hdg
      refine .inr ⟨go, fun H' => ∃ φ2 μ2 acc rest, LcAt K φ φ2 H H' D μ2 acc ∧ lcM2 t tt fi1 t1 tt1 fe vs1 src ds (ds.drop (i + 1)) (wipeR ρ vs) μ2 = some (rest, μ9) ∧ acc ++ rest = ps, fun H' hN => ⟨ds.length - (i + 1), by omega, rfl, hN⟩, fun x H3 hyl => ?_⟩
      obtain ⟨g3, c3, hx⟩ := hy x H3 hyl
      have l3 := l.step g3 c3
      split at e2
      · cases e2
      · rename_i ρ3 e3
        have rs3 : RS K φ2 (L2.wipe σ vs) H3 (wipeR ρ vs) μ2 := (rs.wipe vs).step l3.g.w c3
        refine ⟨φ2, _, μ2, .d d, ρ3, rs3, hx, e3, fun σ4 rs4 w4 => ⟨?_, ?_⟩⟩
        · rw [w4 vs hvs]
          exact wipe_same fun i hi z hz => (wipe_some hz).2 hi
        · split at e2
          · rename_i μ4 e4
            refine ⟨φ2, ρ3, μ2, true, μ4, rs4, e4, fun φ5 H5 g5 c5 => L2.iteT ?_⟩
            have l5 := l3.step g5 c5
            have rs5 := rs4.step g5.w c5
            split at e2
            · rename_i ds1 src1 μ6 e6
              split at e2
              · rename_i ps1 μ7 e7
                obtain ⟨⟨rest', μ8⟩, e8, e9⟩ := Option.map_eq_some_iff.mp e2
                cases e9
                refine ⟨φ5, ρ3, μ4, ds1, src1, μ6, rs5, e6, fun φ6 J1 H6 g6 c6 wk6 => ?_⟩
                have hl2 : (acc ++ ps1).length ≤ 1000000 := by
                  have : (acc ++ (ps1 ++ rest')).length ≤ 1000000 := by rw [show acc ++ (ps1 ++ rest') = ps from eps]; exact hlen
                  simp only [List.length_append] at this ⊢
                  omega
                exact lc_in (l5.step g6 c6) hD (rs5.step g6.w c6) wk6 hvs1 e7 hl2 fun φ9 H9 l9 => ⟨φ9, μ7, acc ++ ps1, rest', l9, by rw [hdr]; exact e8, by rw [List.append_assoc]; exact eps⟩
              · cases e2
            · cases e2
          · rename_i μ4 e4
            refine ⟨φ2, ρ3, μ2, false, μ4, rs4, e4, fun φ5 H5 g5 c5 => L2.iteF ?_⟩
            exact ⟨φ5, μ4, acc, rest, l3.step g5 c5, by rw [hdr]; exact e2, eps⟩
          · cases e2
    · cases e2
theorem tE_lc2 {K : PySem.W.Frag} {fi fi1 : IF} {t t1 : TF} {tt tt1 : BF} {fe : EF} {ws ws1 vs vs1 : List Nat} (hvs : ∀ i ∈ ws, i ∈ vs) (hvs1 : ∀ i ∈ ws1, i ∈ vs1) : ∀ σ H Q, tE K (eLc2 fi t tt fi1 t1 tt1 fe vs vs1) σ H Q → tLc2 (tI K fi) (tG K t ws) (tT K tt) (tI K fi1) (tG K t1 ws1) (tT K tt1) (tE K fe) vs vs1 σ H Q := fun σ H Q ⟨φ, ρ, μ, w, μ', rs, e, k⟩ => by
  unfold eLc2 at e
  split at e
  · rename_i ds src μ1 e1
    split at e
    · rename_i ps μ2 e2
      split at e
      · rename_i hl
        cases e
        refine ⟨φ, ρ, μ, ds, src, μ1, rs, e1, fun φ1 J H1 g1 c1 wk D hD => ?_⟩
        exact lc2_loop (rs.step g1.w c1) wk hD hvs hvs1 e2 hl fun φ2 H2 l => l.endD c1 hD fun φ3 v3 H3 g3 c3 r3 => k φ3 v3 H3 (g1.trans g3) c3 r3
      · cases e
    · cases e
  · cases e
section
variable {X : Cx} {elt tg iter tg1 iter1 : Expr} {ifs ifs1 : List Expr} {scope : Scope} {own : List (Str × Nat)} {pos : Pos} {fi fi1 : IF} {t t1 : TF} {tt tt1 : BF} {fe : EF} {ws ws1 vs1 : List Nat}
theorem ej_lc2 (hc : X.calm = true) (hN : X.N.Nodup) (hi : PI X tg iter (tI X.K fi)) (ok : BlkOk X.N X.env.scope scope own) (hvs : ∀ i ∈ ws, i ∈ own.map (·.2)) (hvs1 : ∀ i ∈ ws1, i ∈ vs1) (hv1 : ∀ i ∈ vs1, i ∈ own.map (·.2))
    (hg : ∀ (s : Shared) (H : Hp) (C : Addr) (cl : List (Str × Addr)) (fp : List Addr), PG (X.blk s H scope (compEnvC scope cl C X.env) fp) tg (tG X.K t ws)) (ht : ∀ (s : Shared) (H : Hp) (C : Addr) (cl : List (Str × Addr)) (fp : List Addr), PTs (X.blk s H scope (compEnvC scope cl C X.env) fp) ifs (tT X.K tt))
    (hi1 : ∀ (s : Shared) (H : Hp) (C : Addr) (cl : List (Str × Addr)) (fp : List Addr), PI (X.blk s H scope (compEnvC scope cl C X.env) fp) tg1 iter1 (tI X.K fi1))
    (hg1 : ∀ (s : Shared) (H : Hp) (C : Addr) (cl : List (Str × Addr)) (fp : List Addr), PG (X.blk s H scope (compEnvC scope cl C X.env) fp) tg1 (tG X.K t1 ws1)) (ht1 : ∀ (s : Shared) (H : Hp) (C : Addr) (cl : List (Str × Addr)) (fp : List Addr), PTs (X.blk s H scope (compEnvC scope cl C X.env) fp) ifs1 (tT X.K tt1))
    (he : ∀ (s : Shared) (H : Hp) (C : Addr) (cl : List (Str × Addr)) (fp : List Addr), PE (X.blk s H scope (compEnvC scope cl C X.env) fp) elt (tE X.K fe)) (hs : ∀ x, foldedSetIterable iter X.env x = pure x := by intro _; rfl) (hs1 : ∀ env x, foldedSetIterable iter1 env x = pure x := by intro _ _; rfl) :
    PE X (.ListComp elt [⟨tg, iter, ifs, 0⟩, ⟨tg1, iter1, ifs1, 0⟩] scope pos) (tE X.K (eLc2 fi t tt fi1 t1 tt1 fe (own.map (·.2)) vs1)) := PE.to (pe_lc2 hc hN hi ok hv1 hg ht hi1 hg1 ht1 he hs hs1) (tE_lc2 hvs hvs1)
/-- name = [.. for .. for ..] -/
theorem sj_setLc2 {i : Nat} {y : Str} {py : Pos} {spos : Pos} (hc : X.calm = true) (hN : X.N.Nodup) (hi : PI X tg iter (tI X.K fi)) (ok : BlkOk X.N X.env.scope scope own) (hvs : ∀ i ∈ ws, i ∈ own.map (·.2)) (hvs1 : ∀ i ∈ ws1, i ∈ vs1) (hv1 : ∀ i ∈ vs1, i ∈ own.map (·.2))
    (hg : ∀ (s : Shared) (H : Hp) (C : Addr) (cl : List (Str × Addr)) (fp : List Addr), PG (X.blk s H scope (compEnvC scope cl C X.env) fp) tg (tG X.K t ws)) (ht : ∀ (s : Shared) (H : Hp) (C : Addr) (cl : List (Str × Addr)) (fp : List Addr), PTs (X.blk s H scope (compEnvC scope cl C X.env) fp) ifs (tT X.K tt))
    (hi1 : ∀ (s : Shared) (H : Hp) (C : Addr) (cl : List (Str × Addr)) (fp : List Addr), PI (X.blk s H scope (compEnvC scope cl C X.env) fp) tg1 iter1 (tI X.K fi1))
    (hg1 : ∀ (s : Shared) (H : Hp) (C : Addr) (cl : List (Str × Addr)) (fp : List Addr), PG (X.blk s H scope (compEnvC scope cl C X.env) fp) tg1 (tG X.K t1 ws1)) (ht1 : ∀ (s : Shared) (H : Hp) (C : Addr) (cl : List (Str × Addr)) (fp : List Addr), PTs (X.blk s H scope (compEnvC scope cl C X.env) fp) ifs1 (tT X.K tt1))
    (he : ∀ (s : Shared) (H : Hp) (C : Addr) (cl : List (Str × Addr)) (fp : List Addr), PE (X.blk s H scope (compEnvC scope cl C X.env) fp) elt (tE X.K fe)) (hy : X.N[i]? = some y := by rfl) (hyl : X.env.scope.names.lookup y = some .local := by rfl)
    (hsw : swapsWith (.ListComp elt [⟨tg, iter, ifs, 0⟩, ⟨tg1, iter1, ifs1, 0⟩] scope pos) (some (.Name y py)) spos.line X.env = pure true := by exact sw_true rfl rfl rfl (by decide +kernel)) (hs : ∀ x, foldedSetIterable iter X.env x = pure x := by intro _; rfl) (hs1 : ∀ env x, foldedSetIterable iter1 env x = pure x := by intro _ _; rfl) :
    PS X (.Assign [.Name y py] (.ListComp elt [⟨tg, iter, ifs, 0⟩, ⟨tg1, iter1, ifs1, 0⟩] scope pos) spos) (tS X.K (sAsg (eLc2 fi t tt fi1 t1 tt1 fe (own.map (·.2)) vs1) (tNm i))) := PS.to (ps_setLc2 hc hN hy hyl hsw hi ok hv1 hg ht hi1 hg1 ht1 he hs hs1) fun D σ H q => by
  refine tE_lc2 hvs hvs1 σ H _ ?_
  obtain ⟨φ, ρ, μ, w, μ1, rs, e1, k⟩ := tS_asg (vs := [i]) D σ H q
  refine ⟨φ, ρ, μ, w, μ1, rs, e1, fun φ1 v1 H1 g1 c1 r1 => ?_⟩
  obtain ⟨φ2, ρ2, μ2, w2, ρ3, rs2, rv2, e2, k2⟩ := k φ1 v1 H1 g1 c1 r1
  cases e2
  exact k2 _ (rs2.put rv2) fun us hu => wipe_put (hu i (by simp))
end
end VL
end
section
set_option Elab.async false
set_option linter.all false
set_option maxRecDepth 100000
set_option maxHeartbeats 2000000
/-! ### of tuples: sorted, set, extend -/
namespace VL
open PySem PyProof.Rows
section
variable {prog : Program} {w : World} {A : Around} {E : Value → Shared → Prop} {s : Shared}
theorem col_tup {l : Addr} {vs : List Value} {Q : List Value → Shared → Prop} (hl : IsTup s.heap l vs.toArray) (hsz : vs.length ≤ sizeLine)
    (h : Q vs { s with heap := (s.heap.push (seqObj "list" #[] 0)).update s.heap.objs.size (Obj.mapSeq (· ++ vs.toArray)) }) : wpAny (model prog w) A (collect (.ref l)) Q E s := by
  obtain ⟨o, ho, hc, n, hd⟩ := id hl
  unfold collect; refine wpAny_bind (wpAny_runValue (codeAny_builtin entry_proto_collect' ?_))
  show wpAny _ _ (do again (.builtin "list.__iadd__" ⟨[← newList [], .ref l], []⟩)) _ _ s; refine wpAny_bind (wpAny_newList (wpAny_pure ⟨Code.quiet_builtin _ (by decide +kernel), codeAny_builtin entry_list_iadd' ?_⟩))
  show wpAny _ _ (Builtin.List.listExtendWith (.ref s.heap.objs.size) (.ref l) (.ref s.heap.objs.size)) _ _ { s with heap := s.heap.push (seqObj "list" #[] 0) }; unfold Builtin.List.listExtendWith
  have hot : (s.heap.push (seqObj "list" #[] 0)).get? l = some o := Heap.get?_push_of_some _ ho
  refine wpAny_bind (wpAny_typeOf (T := "tuple") ⟨o, hot, hc⟩ ?_)
  rw [if_pos (by rw [show (Value.type "tuple" == Value.type "tuple") = true from rfl]; simp)]
  refine wpAny_bind (listItems_at hot hd (wpAny_bind (listItems_at (xs := #[]) (n := 0) (Heap.get?_push_size _ rfl) rfl ?_)))
  rw [if_neg (by simp)]; refine wpAny_bind (listUpdate_at (xs := #[]) (n := 0) (Heap.get?_push_size _ rfl) rfl (wpAny_pure ?_) (Nat.zero_le _) (by show (#[] ++ vs.toArray).size ≤ sizeLine + 1; simp only [Array.size_append, List.size_toArray, List.length_nil]; omega))
  refine wpAny_bind (m := load s.heap.objs.size) (wpAny_load (get?_update_seq (Heap.get?_push_size _ rfl) _) ?_)
  show wpAny _ _ (pure ((#[] : Array Value) ++ vs.toArray).toList) Q E _
  rw [show ((#[] : Array Value) ++ vs.toArray).toList = vs by simp]; exact wpAny_pure h
theorem srt_tup {l : Addr} {vs : List Value} {ltv : Value → Value → Bool} {Q : Value → Shared → Prop} (O : SrtO.Swo ltv) (hl : IsTup s.heap l vs.toArray) (hz : vs.length ≤ sizeLine)
    (hS : 2 ≤ vs.length → ∀ (h₁ : Heap) (a : Addr), h₁.get? a = some (seqObj "list" vs.toArray 0) → (∀ b o, s.heap.get? b = some o → b ≠ a ∧ h₁.get? b = some o) → SrtO.SortableO prog w A.in1.in1 { s with heap := h₁ } a vs ltv)
    (h : ∀ out : List Value, SrtO.Srtd ltv out → SrtO.Stb ltv out vs → Q (.ref (s.heap.objs.size + 1)) { s with heap := sortedAll s.heap vs out.toArray }) : wpAny (model prog w) A (call (.builtin "sorted") [.ref l]) Q E s := by
  refine Calls.call_function_entry kind_sorted plain_sorted entry_sorted (args_sorted1 _) ?_; unfold Builtin.«sorted»
  refine wpAny_bind (m := checkCount "sorted" 1 1 _) (wpAny_pure (wpAny_bind (col_tup hl hz (wpAny_bind (wpAny_newList ?_ hz)))))
  have hs1 : ((s.heap.push (seqObj "list" #[] 0)).update s.heap.objs.size (Obj.mapSeq (· ++ vs.toArray))).objs.size = s.heap.objs.size + 1 := by rw [Heap.size_update, size_push']
  have hob : (((s.heap.push (seqObj "list" #[] 0)).update s.heap.objs.size (Obj.mapSeq (· ++ vs.toArray))).push (seqObj "list" vs.toArray 0)).get? (s.heap.objs.size + 1) = some (seqObj "list" vs.toArray 0) := by rw [← hs1]; exact Heap.get?_push_size _ rfl
  have kp : ∀ b o, s.heap.get? b = some o → b ≠ s.heap.objs.size + 1 ∧ (((s.heap.push (seqObj "list" #[] 0)).update s.heap.objs.size (Obj.mapSeq (· ++ vs.toArray))).push (seqObj "list" vs.toArray 0)).get? b = some o := fun b o q => by
    have hlt : b < s.heap.objs.size := Heap.lt_size q
    exact ⟨Nat.ne_of_lt (Nat.lt_succ_of_lt hlt), Heap.get?_push_of_some _ (by rw [Heap.get?_update_ne _ _ _ _ (Nat.ne_of_lt hlt)]; exact Heap.get?_push_of_some _ q)⟩
  show wpAny _ _ _ _ _ { s with heap := ((s.heap.push (seqObj "list" #[] 0)).update s.heap.objs.size (Obj.mapSeq (· ++ vs.toArray))).push (seqObj "list" vs.toArray 0) }; rw [hs1]
  refine wpAny_bind (wpAny_holding (wpAny_call_entry slot_list_sort ⟨_, hob, rfl⟩ entry_list_sort (SrtO.list_sort_ord O hob hz (fun h2 => hS h2 _ _ hob kp) fun out hs hb => ⟨_, rfl, wpAny_pure ⟨_, rfl, h out hs hb⟩⟩) (args_list_sort _)))
theorem ext_tup {l b : Addr} {xs ys : Array Value} {n : Nat} {Q : Value → Shared → Prop} (ho : s.heap.get? l = some { cls := .type "list", data := .seq xs n }) (hb : IsTup s.heap b ys) (hz : xs.size + ys.size ≤ 1000000)
    (h : Q .none { s with heap := s.heap.update l (Obj.mapSeq (· ++ ys)) }) : wpAny (model prog w) A (call (.builtin "list.extend") [.ref l, .ref b]) Q E s := by
  obtain ⟨o, hob, hc, m, hd⟩ := id hb
  refine wpAny_call_entry F.slot_list_extend ⟨_, ho, rfl⟩ F.entry_list_extend ?_ (F.args_list_extend_2 _ _)
  unfold Builtin.«list.extend»; refine wpAny_bind (m := selfAndOne "list.extend" _) (wpAny_pure ?_)
  show wpAny _ _ (Builtin.List.listExtendWith (.ref l) (.ref b) .none) _ _ _; unfold Builtin.List.listExtendWith
  refine wpAny_bind (wpAny_typeOf (T := "tuple") ⟨o, hob, hc⟩ ?_)
  rw [if_pos (by rw [show (Value.type "tuple" == Value.type "tuple") = true from rfl]; simp)]
  refine wpAny_bind (listItems_at hob hd (wpAny_bind (listItems_at ho rfl ?_)))
  have hs : 1000000 ≤ sizeLine := by rw [sizeLine_eq]; decide
  rw [if_neg (by rw [L2.notLongL (show xs.size + ys.size ≤ sizeLine by omega), Bool.and_false]; exact Bool.false_ne_true)]
  refine wpAny_bind (listUpdate_at ho rfl (wpAny_bind (wpAny_pure ?_)) (by omega) (by rw [Array.size_append]; omega))
  first
    | exact wpAny_pure ⟨_, rfl, h⟩
    | exact ⟨_, rfl, h⟩
end
end VL
namespace VL
open PySem PySem.Spec PyProof.Rows L2
variable [LawTabs]
section
variable {X : Cx}
/-- sorted(t), a tuple of whole numbers -/
def rSortedTI (K : PySem.W.Frag) : List V → Hp → VK → Prop := fun vs H Q => ∃ (a : Addr) (ns : List Int), vs = [V.ref a] ∧ SqT K H a (ns.map V.int) ∧ ∀ (ms : List Int) (p : Addr), ms.Perm ns → ms.Pairwise (· ≤ ·) → H p = none → Q (.ref p) (upd H p (.lst (ms.map V.int)))
theorem cr_sortedTI : CallR X (.builtin "sorted") (rSortedTI X.K) := by
  intro pins s σ H vs us Q I r h
  obtain ⟨a, ns, rfl, hs, q⟩ := h
  obtain ⟨its, rv, hl, hz⟩ := I.tuple hs
  rw [Vals.ref1 r]
  have hi := rv.ints
  refine srt_tup SrtO.swo_int hl (by rw [← rv.length]; exact hz) (fun h2 h₁ a' _ _ => SrtO.ints_sortable hi h2) fun out h1 h2 => ?_
  obtain ⟨k1, k2, k3⟩ := SrtO.ints_out hi h1 h2
  obtain ⟨ep, he⟩ := PyProof.Rows.sortedAll_at s.heap its out.toArray
  have hlen : ((out.map SrtO.iv).map V.int).length ≤ sizeLine := by rw [List.length_map, k2.length_eq]; rw [List.length_map] at hz; exact hz
  exact ⟨.ref _, upd H (s.heap.objs.size + 1) (.lst ((out.map SrtO.iv).map V.int)), I.laid (t' := s.toks) (fun _ _ => PyProof.Rows.sortedAll_old) (Nat.le_succ _) ⟨hlen, out, ep, vals_of_ints k1, he⟩, rfl, q _ _ k2 k3 (I.hok.fresh (Nat.le_succ _))⟩
def rSortedIT (K : PySem.W.Frag) : List V → Hp → VK → Prop := fun vs H Q => rSortedI K vs H Q ∨ rSortedTI K vs H Q
theorem cr_sortedIT : CallR X (.builtin "sorted") (rSortedIT X.K) := fun pins s σ H vs us Q I r h => h.elim (cr_sortedI pins s σ H vs us Q I r) (cr_sortedTI pins s σ H vs us Q I r)
/-- sorted lists of whole numbers, laid in one by one -/
def insI (x : Int) : List Int → List Int
  | [] => [x]
  | y :: l => if x ≤ y then x :: y :: l else y :: insI x l
def isrt (ns : List Int) : List Int := ns.foldr insI []
theorem insI_perm (x : Int) : ∀ l, (insI x l).Perm (x :: l)
  | [] => .refl _
  | y :: l => by
    unfold insI
    split
    · exact .refl _
    · exact ((insI_perm x l).cons y).trans (.swap x y l)
theorem insI_srt (x : Int) : ∀ l : List Int, l.Pairwise (· ≤ ·) → (insI x l).Pairwise (· ≤ ·)
  | [], _ => by simp [insI]
  | y :: l, h => by
    obtain ⟨h1, h2⟩ := List.pairwise_cons.mp h
    unfold insI
    split
    · rename_i hxy
      exact List.pairwise_cons.mpr ⟨fun z hz => (List.mem_cons.mp hz).elim (fun e => by rw [e]; exact hxy) fun e => Int.le_trans hxy (h1 z e), h⟩
    · rename_i hxy
      refine List.pairwise_cons.mpr ⟨fun z hz => ?_, insI_srt x l h2⟩
      rcases List.mem_cons.mp ((insI_perm x l).mem_iff.mp hz) with e | e
      · rw [e]; omega
      · exact h1 z e
theorem isrt_perm : ∀ ns, (isrt ns).Perm ns
  | [] => .refl _
  | x :: ns => (insI_perm x (isrt ns)).trans ((isrt_perm ns).cons x)
theorem isrt_srt : ∀ ns, (isrt ns).Pairwise (· ≤ ·)
  | [] => List.Pairwise.nil
  | x :: ns => insI_srt x _ (isrt_srt ns)
theorem isrt_eq {ns ms : List Int} (h : ms.Perm ns) (hs : ms.Pairwise (· ≤ ·)) : ms = isrt ns := (h.trans (isrt_perm ns).symm).eq_of_pairwise (fun a b _ _ h1 h2 => by omega) hs (isrt_srt ns)
@[simp] def oSortedIT (μ : Mu) (ws : List Vw) : Option Vw := match ws with
  | [.d (.tuple ds)] => (toI ds).map fun ns => .d (.list ((isrt ns).map PyData.int))
  | [w] => ((toL μ w).bind toI).map fun ns => .d (.list ((isrt ns).map PyData.int))
  | _ => none
theorem oSortedIT_ok {K : PySem.W.Frag} : OL K (rSortedIT K) oSortedIT := by
  intro φ H μ ws w vs Q c r e k
  unfold oSortedIT at e
  split at e
  · rename_i ds
    obtain ⟨v, rfl, r1⟩ := rvs1 r
    obtain ⟨ns, e1, e4⟩ := Option.map_eq_some_iff.mp e
    cases e4
    obtain ⟨a, xs, rfl, h1, h2⟩ := r1
    rw [toI_da e1 h2] at h1
    exact .inr ⟨a, ns, rfl, h1, fun ms p hp hs hn => by
      rw [isrt_eq hp hs]
      exact new_lst c (DaAll.ints (isrt ns)) k p hn⟩
  · rename_i z hne
    obtain ⟨v, rfl, r1⟩ := rvs1 r
    obtain ⟨ns, e1, e4⟩ := Option.map_eq_some_iff.mp e
    cases e4
    obtain ⟨ds, e2, e3⟩ := Option.bind_eq_some_iff.mp e1
    obtain ⟨a, xs, rfl, h1, h2⟩ := toL_ok c r1 e2
    rw [toI_da e3 h2] at h1
    exact .inl ⟨a, ns, rfl, h1, fun ms p hp hs hn => by
      rw [isrt_eq hp hs]
      exact new_lst c (DaAll.ints (isrt ns)) k p hn⟩
  · cases e
/-! sorted(set(t)), a tuple of whole numbers -/
def rSetTI (K : PySem.W.Frag) (w : World) : List V → Hp → VK → Prop := fun vs H Q => ∃ (p : Addr) (ns : List Int), vs = [.ref p] ∧ SqT K H p (ns.map V.int) ∧ ns.length ≤ 60 ∧ ∀ a c, H a = none → c ≤ ns.length → Q (.ref a) (upd H a (SetO w a (fun j => decide (j ∈ ns)) c))
theorem cr_setTI (hc : X.calm = true) : CallR X (.type "set") (rSetTI X.K X.w) := by
  intro pins s σ H vs us Q I r h
  obtain ⟨p, ns, rfl, hs, hl, q⟩ := h
  obtain ⟨its, rv, pt, hz⟩ := I.tuple hs
  rw [Vals.ref1 r]
  have hi : IntsAre its.toArray.toList ns := ints_of_vals rv
  refine call_set_tupI ns (I.ok.hd hc) (show s.heap.IsTuple p its.toArray from pt) hi (by unfold scanBound; omega) fun h' tk c R hcn k => ?_
  exact ⟨.ref _, upd H s.heap.objs.size (SetO X.w s.heap.objs.size (fun j => decide (j ∈ ns)) c), I.laid (t' := tk) k (Nat.le_refl _) (setO_new R), rfl, q _ c (I.hok.fresh (Nat.le_refl _)) hcn⟩
/-- strictly ascending, laid in one by one -/
def inU (x : Int) : List Int → List Int
  | [] => [x]
  | y :: l => if x < y then x :: y :: l else if x = y then y :: l else y :: inU x l
def usrt (ns : List Int) : List Int := ns.foldr inU []
theorem inU_mem (x z : Int) : ∀ l, z ∈ inU x l ↔ z = x ∨ z ∈ l
  | [] => by simp [inU]
  | y :: l => by
    unfold inU
    split
    · simp
    · split
      · rename_i h; subst h; simp
      · simp only [List.mem_cons, inU_mem x z l]; constructor <;> (intro h; rcases h with h | h | h <;> simp [h])
theorem inU_srt (x : Int) : ∀ l : List Int, l.Pairwise (· < ·) → (inU x l).Pairwise (· < ·)
  | [], _ => by simp [inU]
  | y :: l, h => by
    obtain ⟨h1, h2⟩ := List.pairwise_cons.mp h
    unfold inU
    split
    · rename_i hxy
      exact List.pairwise_cons.mpr ⟨fun z hz => (List.mem_cons.mp hz).elim (fun e => by rw [e]; exact hxy) fun e => Int.lt_trans hxy (h1 z e), h⟩
    · split
      · exact h
      · refine List.pairwise_cons.mpr ⟨fun z hz => ?_, inU_srt x l h2⟩
        rcases (inU_mem x z l).mp hz with e | e
        · rw [e]; omega
        · exact h1 z e
theorem usrt_mem (z : Int) : ∀ ns, z ∈ usrt ns ↔ z ∈ ns
  | [] => Iff.rfl
  | x :: ns => by
    show z ∈ inU x (usrt ns) ↔ _
    rw [inU_mem, usrt_mem z ns, List.mem_cons]
theorem usrt_srt : ∀ ns, (usrt ns).Pairwise (· < ·)
  | [] => List.Pairwise.nil
  | x :: ns => inU_srt x _ (usrt_srt ns)
theorem usrt_eq {ns ms : List Int} (h : ∀ k, k ∈ ms ↔ k ∈ ns) (hs : ms.Pairwise (· < ·)) : ms = usrt ns := by
  have n1 : ms.Nodup := hs.imp fun h => by omega
  have n2 : (usrt ns).Nodup := (usrt_srt ns).imp fun h => by omega
  have p : ms.Perm (usrt ns) := (List.perm_ext_iff_of_nodup n1 n2).mpr fun k => by rw [h, usrt_mem]
  exact p.eq_of_pairwise (fun a b _ _ h1 h2 => by omega) hs (usrt_srt ns)
@[simp] def oSSet (_ : Mu) (ws : List Vw) : Option Vw := match ws with
  | [.d (.tuple ds)] => (match toI ds with
    | some ns => if ns.length ≤ 60 then some (.d (.list ((usrt ns).map PyData.int))) else none
    | none => none)
  | _ => none
theorem ej_sset {e : Expr} {f : EF} {p p2 pos pos2 : Pos} (hc : X.calm = true) (hm : X.mg "sorted" = none) (hm2 : X.mg "set" = none) (he : PE X e (tE X.K f)) (hg : Gl X "sorted" := by rfl) (hg2 : Gl X "set" := by rfl)
    (hs : starEach [.Call (.Name "set" p2) [e] [] pos2] X.env = (false, eval (.Call (.Name "set" p2) [e] [] pos2) X.env) :: starEach [] X.env := by rfl) (hs2 : starEach [e] X.env = (false, eval e X.env) :: starEach [] X.env := by rfl)
    (hp : (backTo pos (starEach [] X.env)).any (·.1) = false := by rfl) (hp2 : (backTo pos2 (starEach [] X.env)).any (·.1) = false := by rfl) :
    PE X (.Call (.Name "sorted" p) [.Call (.Name "set" p2) [e] [] pos2] [] pos) (tE X.K (eBi oSSet (aCons f aNil))) :=
  PE.to (pe_callB (cr_sortedSet hc) hg hm (by decide +kernel) (pa_cons (pe_callTy (cr_setTI hc) hg2 hm2 (by decide +kernel) (pa_cons he pa_nil hs2) (by decide) (by decide) hs2 hp2) pa_nil hs) (by decide) (by decide) hs hp) fun σ H Q ⟨φ, ρ, μ, w, μ', rs, e, k⟩ => by
    unfold eBi aCons aNil at e
    cases e1 : f ρ μ with
    | none => simp only [e1] at e; cases e
    | some z =>
      obtain ⟨x, μ1⟩ := z
      simp only [e1, Option.map_some] at e
      obtain ⟨y, e2, e3⟩ := Option.map_eq_some_iff.mp e
      cases e3
      unfold oSSet at e2
      split at e2
      · rename_i ds hw
        cases hw
        split at e2
        · rename_i ns e4
          split at e2
          · rename_i hl
            cases e2
            refine ⟨φ, ρ, μ, _, _, rs, e1, fun φ1 v1 H1 g1 c1 r1 => ?_⟩
            obtain ⟨a, xs, rfl, h1, h2⟩ := r1
            rw [toI_da e4 h2] at h1
            refine ⟨a, ns, rfl, h1, hl, fun b c hb hcn => ⟨b, _, c, rfl, upd_same, by omega, fun ms q hs hm _ hq => ?_⟩⟩
            rw [usrt_eq (fun k => (hm k).trans (by rw [decide_eq_true_eq])) hs]
            exact new_lst (c1.laid hb) (DaAll.ints (usrt ns)) (fun φ4 v4 H4 g4 c4 r4 => k φ4 v4 H4 ((g1.trans (Grow.laid hb)).trans g4) c4 r4) q hq
          · cases e2
        · cases e2
      · cases e2
/-! xs.extend(t) -/
def rExtT (K : PySem.W.Frag) : V → List V → Hp → VK → Prop := fun x vs H Q => ∃ l b xs zs, x = .ref l ∧ vs = [.ref b] ∧ H l = some (.lst xs) ∧ SqT K H b zs ∧ xs.length + zs.length ≤ 1000000 ∧ Q .non (upd H l (.lst (xs ++ zs)))
theorem mt_extT : MtM X "list.extend" (rExtT X.K) := by
  intro pins s σ H x vs v us Q I rx rv h
  obtain ⟨l, b, xs, zs, rfl, rfl, hH, hB, hz, q⟩ := h
  cases rx
  obtain ⟨u, rfl, ru⟩ := rv.one
  cases ru
  obtain ⟨z, its, n, r, hl, e⟩ := I.lstM hH
  obtain ⟨its2, r2, pt, z2⟩ := I.tuple hB
  have l2 := r2.length
  refine ext_tup e pt (by rw [List.size_toArray, List.size_toArray]; omega) ?_
  refine ⟨.non, _, I.lset (t' := s.toks) (its' := its ++ its2) hH e (by simp) (r.append r2) ?_, rfl, q⟩
  rw [List.length_append]
  have hs : 1000000 ≤ sizeLine := by rw [sizeLine_eq]; decide
  omega
@[simp] def sExtT (fo fe : EF) (ρ : Rho) (μ : Mu) : Option SR := match fo ρ μ with
  | some (.loc n, μ1) => (match fe ρ μ1 with
    | some (.d (.tuple es), μ2) => (match μ2[n]? with
      | some ds => if ds.length + es.length ≤ 1000000 then some (.nx ρ (μ2.set n (ds ++ es))) else none
      | none => none)
    | _ => none)
  | _ => none
theorem sj_extT {pos : Pos} {o e : Expr} {fo fe : EF} {apos cpos : Pos} (ho : PE X o (tE X.K fo)) (he : PE X e (tE X.K fe)) (hbase : attributeBase o "extend" X.env (eval o X.env) = eval o X.env := by rfl)
    (hfew : ((backTo cpos (starEach [e] X.env)).all (fun x => !x.1) && (backToKw cpos (keywordEach [] X.env)).all (fun x => x.1.isSome) && decide (([e] : List Expr).length + ([] : List Keyword).length + (if ([] : List Keyword).isEmpty then 0 else 1) < 30)) = true := by rfl)
    (hline : (apos.endLine == cpos.line) = true := by rfl) (hs : starEach [e] X.env = (false, eval e X.env) :: starEach [] X.env := by rfl) (hplain : (backTo cpos (starEach [] X.env)).any (·.1) = false := by rfl)
    (hsw : swapsWith (.Call (.Attribute o "extend" apos) [e] [] cpos) none pos.line X.env = pure false := by rfl) : PS X (.Expr (.Call (.Attribute o "extend" apos) [e] [] cpos) pos) (tS X.K (sExtT fo fe)) :=
  PS.to (ps_expr (pe_bm PySem.F.plainAttrs_list PySem.F.slot_list_extend PySem.F.type_list_extend mt_extT ho (aj_cons he aj_nil hs) hbase hfew hline hs hplain) hsw) fun D σ H ⟨φ, ρ, μ, rs, k⟩ => by
  unfold sExtT at k
  split at k
  · rename_i n μ1 e1
    refine ⟨φ, ρ, μ, _, μ1, rs, e1, fun φ1 v1 H1 g1 c1 r1 => ?_⟩
    have rs1 := rs.step g1.w c1
    obtain ⟨a, h1, h2⟩ := id r1
    obtain ⟨xs, hx⟩ := c1.mem (List.mem_of_getElem? h1)
    subst h2
    refine ⟨.inl ⟨rfl, xs, SqL.of hx⟩, ?_⟩
    split at k
    · rename_i es μ2 e2
      refine ⟨φ1, ρ, μ1, [.d (.tuple es)], μ2, rs1, by unfold aCons aNil; rw [e2]; rfl, fun φ2 vs H2 g2 c2 r2 => ?_⟩
      obtain ⟨v, rfl, b0, zs, rfl, h12, h13⟩ := rvs1 r2
      split at k
      · rename_i ds e4
        split at k
        · rename_i hl
          obtain ⟨b, h6, h7⟩ := RV.step g2.w _ _ r1
          cases h7
          obtain ⟨ys, h8, h9⟩ := c2.at_ n a ds h6 e4
          refine ⟨a, b0, ys, zs, rfl, rfl, h8, h12, by rw [← h9.len, ← h13.len]; exact hl, ?_⟩
          obtain ⟨g4, c4⟩ := cell_write c2 h6 (DaAll.append h9 h13)
          exact k φ2 σ _ ((g1.trans g2).trans g4) ((rs1.step g2.w c2).step g4.w c4)
        · exact k.elim
      · exact k.elim
    · exact k.elim
  · exact k.elim
end
end VL
end
section
set_option Elab.async false
set_option linter.all false
set_option maxRecDepth 100000
set_option maxHeartbeats 2000000
/-! ### sorted(xs), xs a list of pairs of whole numbers -/
namespace VL
open PySem PySem.Spec PyProof.Rows L2
variable [LawTabs]
def lexLe (p q : Int × Int) : Prop := p.1 < q.1 ∨ (p.1 = q.1 ∧ p.2 ≤ q.2)
def lexLeB (p q : Int × Int) : Bool := decide (p.1 < q.1) || (decide (p.1 = q.1) && decide (p.2 ≤ q.2))
theorem lexLeB_iff {p q : Int × Int} : lexLeB p q = true ↔ lexLe p q := by
  unfold lexLeB lexLe
  simp
theorem lexLe_total (p q : Int × Int) : lexLe p q ∨ lexLe q p := by unfold lexLe; omega
theorem lexLe_trans {p q r : Int × Int} (h1 : lexLe p q) (h2 : lexLe q r) : lexLe p r := by unfold lexLe at *; omega
theorem lexLe_anti {p q : Int × Int} (h1 : lexLe p q) (h2 : lexLe q p) : p = q := by
  unfold lexLe at *
  exact Prod.ext (by omega) (by omega)
def insP (x : Int × Int) : List (Int × Int) → List (Int × Int)
  | [] => [x]
  | y :: l => if lexLeB x y = true then x :: y :: l else y :: insP x l
def psrt (ns : List (Int × Int)) : List (Int × Int) := ns.foldr insP []
theorem insP_perm (x : Int × Int) : ∀ l, (insP x l).Perm (x :: l)
  | [] => .refl _
  | y :: l => by
    unfold insP
    split
    · exact .refl _
    · exact ((insP_perm x l).cons y).trans (.swap x y l)
theorem insP_srt (x : Int × Int) : ∀ l, l.Pairwise lexLe → (insP x l).Pairwise lexLe
  | [], _ => by simp [insP]
  | y :: l, h => by
    obtain ⟨h1, h2⟩ := List.pairwise_cons.mp h
    unfold insP
    split
    · rename_i hxy
      exact List.pairwise_cons.mpr ⟨fun z hz => (List.mem_cons.mp hz).elim (fun e => by rw [e]; exact lexLeB_iff.mp hxy) fun e => lexLe_trans (lexLeB_iff.mp hxy) (h1 z e), h⟩
    · rename_i hxy
      refine List.pairwise_cons.mpr ⟨fun z hz => ?_, insP_srt x l h2⟩
      rcases List.mem_cons.mp ((insP_perm x l).mem_iff.mp hz) with e | e
      · rw [e]; exact (lexLe_total x y).resolve_left fun q => hxy (lexLeB_iff.mpr q)
      · exact h1 z e
theorem psrt_perm : ∀ ns, (psrt ns).Perm ns
  | [] => .refl _
  | x :: ns => (insP_perm x (psrt ns)).trans ((psrt_perm ns).cons x)
theorem psrt_srt : ∀ ns, (psrt ns).Pairwise lexLe
  | [] => List.Pairwise.nil
  | x :: ns => insP_srt x _ (psrt_srt ns)
theorem psrt_eq {ns ms : List (Int × Int)} (h : ms.Perm ns) (hs : ms.Pairwise lexLe) : ms = psrt ns := (h.trans (psrt_perm ns).symm).eq_of_pairwise (fun a b _ _ h1 h2 => lexLe_anti h1 h2) hs (psrt_srt ns)
@[simp] def toP : List PyData → Option (List (Int × Int))
  | [] => some []
  | .tuple [.int i, .int j] :: ds => (toP ds).map ((i, j) :: ·)
  | _ :: _ => none
abbrev pD (p : Int × Int) : PyData := .tuple [.int p.1, .int p.2]
theorem toP_eq : ∀ {ds : List PyData} {ps : List (Int × Int)}, toP ds = some ps → ds = ps.map pD
  | [], _, e => by cases e; rfl
  | d :: ds, ps, e => by
    unfold toP at e
    split at e
    · rename_i h0; cases h0
    · rename_i i j ds' hd
      cases hd
      obtain ⟨qs, e1, e2⟩ := Option.map_eq_some_iff.mp e
      subst e2
      rw [toP_eq e1]; rfl
    · cases e
theorem toP_map : ∀ ps : List (Int × Int), toP (ps.map pD) = some ps
  | [] => rfl
  | p :: ps => by simp [toP_map ps]
/-- the pair at each place of a list of V -/
def PrsAt (K : PySem.W.Frag) (H : Hp) (xs : List V) (ps : List (Int × Int)) : Prop := xs.length = ps.length ∧ ∀ z ∈ xs.zip ps, ∃ t, z.1 = .ref t ∧ SqT K H t [.int z.2.1, .int z.2.2]
def rSortedPT (K : PySem.W.Frag) : List V → Hp → VK → Prop := fun vs H Q => ∃ (a : Addr) (xs : List V) (ps : List (Int × Int)), vs = [V.ref a] ∧ SqL K H a xs ∧ PrsAt K H xs ps ∧ ∀ (ys : List V) (qs : List (Int × Int)) (p : Addr), (∀ z ∈ ys.zip qs, z ∈ xs.zip ps) → ys.length = qs.length → qs.Perm ps → qs.Pairwise lexLe → H p = none → Q (.ref p) (upd H p (.lst ys))
open Classical in
noncomputable def prOf (h : Heap) (u : Value) : Int × Int := if q : ∃ p : Int × Int, Srt.IsPair h u p.1 p.2 then choose q else (0, 0)
theorem isPair_uniq {h : Heap} {u : Value} {p q : Int × Int} (x : Srt.IsPair h u p.1 p.2) (y : Srt.IsPair h u q.1 q.2) : p = q := by
  obtain ⟨a, o, t, t2, n, e, ho, hc, hd⟩ := x
  obtain ⟨b, o2, t3, t4, n2, e2, ho2, hc2, hd2⟩ := y
  rw [e] at e2; cases e2
  rw [ho] at ho2; cases ho2
  rw [hd] at hd2
  injection hd2 with h1 _
  have h2 := congrArg Array.toList h1
  simp at h2
  exact Prod.ext h2.1.1 h2.2.1
theorem prOf_eq {h : Heap} {u : Value} {p : Int × Int} (x : Srt.IsPair h u p.1 p.2) : prOf h u = p := by
  have q : ∃ p : Int × Int, Srt.IsPair h u p.1 p.2 := ⟨p, x⟩
  unfold prOf
  rw [dif_pos q]
  exact isPair_uniq (Classical.choose_spec q) x
theorem zip_map_mem {α β : Type} (f : α → β) : ∀ (l : List α) (z : α × β), z ∈ l.zip (l.map f) ↔ z.1 ∈ l ∧ z.2 = f z.1
  | [], z => by simp
  | x :: l, z => by
    rw [List.map_cons, List.zip_cons_cons, List.mem_cons, List.mem_cons, zip_map_mem f l z]
    constructor
    · rintro (e | ⟨h1, h2⟩)
      · subst e; exact ⟨.inl rfl, rfl⟩
      · exact ⟨.inr h1, h2⟩
    · rintro ⟨e | h1, h2⟩
      · exact .inl (Prod.ext e (by rw [h2, e]))
      · exact .inr ⟨h1, h2⟩
section
variable {X : Cx}
theorem cr_sortedPT : CallR X (.builtin "sorted") (rSortedPT X.K) := by
  intro pins s σ H vs us Q I r h
  obtain ⟨a, xs, ps, rfl, hs, ⟨hlen, hp⟩, q⟩ := h
  obtain ⟨its, rv, hl, hz⟩ := I.list hs
  rw [Vals.ref1 r]
  have href : ∀ x ∈ xs, ∃ t, x = V.ref t := fun x hx => by
    obtain ⟨i, hi, e⟩ := List.mem_iff_getElem.mp hx
    obtain ⟨t, e2, _⟩ := hp (xs[i], ps[i]'(by omega)) (List.mem_iff_getElem.mpr ⟨i, by simp; omega, by simp⟩)
    exact ⟨t, e.symm.trans e2⟩
  obtain ⟨e1, e2⟩ := refs_back rv href
  have hpr : ∀ (i : Nat) (u : Value), its[i]? = some u → ∃ p, ps[i]? = some p ∧ Srt.IsPair s.heap u p.1 p.2 := fun i u hi => by
    have hil : i < its.length := (List.getElem?_eq_some_iff.mp hi).1
    have hxl : i < xs.length := by rw [rv.length]; exact hil
    have hpl : i < ps.length := by omega
    obtain ⟨t, et, hq⟩ := hp (xs[i], ps[i]) (List.mem_iff_getElem.mpr ⟨i, by simp; omega, by simp⟩)
    refine ⟨ps[i], List.getElem?_eq_getElem hpl, ?_⟩
    obtain ⟨its2, r2, ⟨o, ho, hc, n, hd⟩, _⟩ := I.tuple hq
    obtain ⟨u1, u2, rfl, ri, rj⟩ := vals2 r2
    obtain ⟨t1, rfl⟩ := ri
    obtain ⟨t2, rfl⟩ := rj
    have hu : u = .ref t := by
      have q1 : xs[i] = backV u := by
        have : xs[i]? = (its.map backV)[i]? := by rw [← e1]
        rw [List.getElem?_eq_getElem hxl, List.getElem?_map, hi] at this
        exact Option.some.inj this
      obtain ⟨b, rfl⟩ := e2 u (List.mem_of_getElem? hi)
      rw [show xs[i] = V.ref t from et] at q1
      cases q1; rfl
    exact ⟨t, o, t1, t2, n, hu, ho, hc, hd⟩
  have hps : ps = its.map (prOf s.heap) := by
    apply List.ext_getElem?
    intro i
    rw [List.getElem?_map]
    cases hi : its[i]? with
    | none =>
      rw [List.getElem?_eq_none_iff] at hi
      rw [List.getElem?_eq_none (by rw [← hlen, rv.length]; exact hi)]; rfl
    | some u =>
      obtain ⟨p, h1, h2⟩ := hpr i u hi
      rw [h1, Option.map_some, prOf_eq h2]
  refine SrtO.sorted_pairsO (k := prOf s.heap) hl.isList (by rw [← rv.length]; exact hz) (fun v hv => ?_) fun h' d out h1 h2 kp hd hn => ?_
  · obtain ⟨i, hi⟩ := List.getElem?_of_mem hv
    obtain ⟨p, _, h2⟩ := hpr i v hi
    rw [prOf_eq h2]; exact h2
  · have h3 : ∀ u ∈ out, ∃ a, u = Value.ref a := fun u hu => e2 u (h2.perm.mem_iff.mp hu)
    obtain ⟨n, hn⟩ := hn
    have hl2 : out.length = its.length := h2.perm.length_eq
    refine ⟨.ref d, upd H d (.lst (out.map backV)), I.laid (t' := s.toks) kp hd ⟨by rw [List.length_map, hl2, ← rv.length]; exact hz, out, n, vals_back h3, hn⟩, rfl, q _ (out.map (prOf s.heap)) d (fun z hz2 => ?_) (by simp) ?_ ?_ (I.hok.fresh hd)⟩
    · rw [List.zip_map', List.mem_map] at hz2
      obtain ⟨u, hu, rfl⟩ := hz2
      rw [e1, hps, List.zip_map', List.mem_map]
      exact ⟨u, h2.perm.mem_iff.mp hu, rfl⟩
    · rw [hps]; exact h2.perm.map _
    · refine List.pairwise_map.mpr (h1.imp fun {x y} e => ?_)
      have := SrtO.lexB_no.mp e
      unfold lexLe
      omega
@[simp] def oSortedP (μ : Mu) (ws : List Vw) : Option Vw := match ws with
  | [w] => ((toL μ w).bind toP).map fun ps => .d (.list ((psrt ps).map pD))
  | _ => none
theorem oSortedP_ok {K : PySem.W.Frag} : OL K (rSortedPT K) oSortedP := by
  intro φ H μ ws w vs Q c r e k
  unfold oSortedP at e
  split at e
  · rename_i z
    obtain ⟨v, rfl, r1⟩ := rvs1 r
    obtain ⟨ps, e1, e4⟩ := Option.map_eq_some_iff.mp e
    cases e4
    obtain ⟨ds, e2, e3⟩ := Option.bind_eq_some_iff.mp e1
    obtain ⟨a, xs, rfl, h1, h2⟩ := toL_ok c r1 e2
    have e5 := toP_eq e3
    subst e5
    have key : ∀ {ps : List (Int × Int)} {xs : List V}, DaAll K φ.av H (ps.map pD) xs → ∀ z ∈ xs.zip ps, Da K φ.av H (pD z.2) z.1 := by
      intro ps
      induction ps with
      | nil => intro xs h z hz; simp at hz
      | cons p ps ih =>
        intro xs h z hz
        obtain ⟨u, us, rfl, hu, hus⟩ := h
        rw [List.zip_cons_cons, List.mem_cons] at hz
        rcases hz with rfl | hz
        · exact hu
        · exact ih hus z hz
    have hlen : xs.length = ps.length := by rw [← h2.len, List.length_map]
    refine ⟨a, xs, ps, rfl, h1, ⟨hlen, fun z hz => ?_⟩, fun ys qs p hz hl hp hs hn => ?_⟩
    · obtain ⟨b, us, e6, h6, h7⟩ := key h2 z hz
      obtain ⟨v1, vs1, rfl, hv1, v2, vs2, rfl, hv2, hv3⟩ := h7
      have : vs2 = [] := hv3
      subst this
      cases hv1; cases hv2
      exact ⟨b, e6, h6⟩
    · rw [← psrt_eq hp hs] at k
      have all : ∀ {qs : List (Int × Int)} {ys : List V}, ys.length = qs.length → (∀ z ∈ ys.zip qs, Da K φ.av H (pD z.2) z.1) → DaAll K φ.av H (qs.map pD) ys := by
        intro qs
        induction qs with
        | nil => intro ys hl _; exact List.eq_nil_of_length_eq_zero hl
        | cons q qs ih =>
          intro ys hl hd
          cases ys with
          | nil => cases hl
          | cons y ys => exact ⟨y, ys, rfl, hd (y, q) (by simp), ih (by simpa using hl) fun z hz => hd z (by rw [List.zip_cons_cons]; exact List.mem_cons_of_mem _ hz)⟩
      exact new_lst c (all hl fun z hzz => key h2 z (hz z hzz)) k p hn
  · cases e
end
end VL
end
section
set_option Elab.async false
set_option linter.all false
set_option maxRecDepth 100000
set_option maxHeartbeats 2000000
/-! ### defs as values, tries around them -/
namespace VL
open PySem PySem.Spec PyProof.Rows L2
variable [LawTabs]
/-- the def of the name x as a value -/
abbrev fnD (x : Str) : PyData := .dict [(.str "def", .str x)]
section
variable {X : Cx} {k i : Nat} {x n : Str} {e : Expr} {es : List Expr} {fa : AF} {p pos : Pos} {W : WX} {L : Str → Option (Nat × XM)}
theorem ej_fn (hm : X.mg x = some (.ref (He.ga X.K x))) (hg : Gl X x := by rfl) (hd : (x == ("__debug__" : Str)) = false := by decide) : PE X (.Name x pos) (tE X.K (eC (fnD x))) :=
  ej_c (pe_glob (v := .ref (He.ga X.K x)) hg hm rfl hd) fun _ _ => .inr ⟨x, rfl, rfl⟩
/-- a call of the def that a slot holds -/
def tXV (K : PySem.W.Frag) (W : WX) (L : Str → Option (Nat × XM)) (i : Nat) (fa : AF) : TE := fun σ H Q => ∃ φ ρ μ, RS K φ σ H ρ μ ∧ ∃ x n m ws μ1, ρ[i]? = some (some (.d (fnD x))) ∧ L x = some (n, m) ∧ fa ρ μ = some (ws, μ1) ∧ ws.length = n ∧ XRP K φ H Q (fun cls d H' => W cls d σ H') (m μ1 ws)
theorem xe_callV (tk : Takes X W) (C : ∀ x n m, L x = some (n, m) → CalX X.prog X.w X.K X.mg X.base k x n m) (hr : Room k X.A) (ha : PA X (e :: es) (tA X.K fa)) (hN : X.N[i]? = some n := by rfl) (hv : Vis X.env.scope n := by first | exact Or.inl rfl | exact Or.inr (Or.inl rfl) | exact Or.inr (Or.inr rfl))
    (hdb : (n == ("__debug__" : Str)) = false := by decide) (hcd : (n == ("__classdict__" : Str)) = false := by decide)
    (he : starEach (e :: es) X.env = (false, eval e X.env) :: starEach es X.env := by rfl) (hpl : (backTo pos (starEach es X.env)).any (·.1) = false := by rfl) : PE X (.Call (.Name n p) (e :: es) [] pos) (tXV X.K W L i fa) := by
  refine ⟨fun pins s σ H Q I h => ?_⟩
  obtain ⟨φ, ρ, μ, rs, x, n0, m, ws, μ1, hi, hL, e1, hl, q⟩ := h
  obtain ⟨fd, ps, F, hm, hk, hb⟩ := (C x n0 m hL).ex
  obtain ⟨v, hσ, hv2⟩ := rs.at_ i _ hi
  obtain rfl : v = .ref (He.ga X.K x) := by
    rcases hv2 with ⟨z, _⟩ | ⟨y, z, e⟩
    · cases z
    · cases z; exact e
  refine wpAny_Call_Name_kw (thn ((pe_var (pos := p) hN hv hdb hcd).run pins s σ H (fun v H1 => v = .ref (He.ga X.K x) ∧ H1 = H) I ⟨_, hσ, rfl, rfl⟩) fun u s1 ⟨v, H1, I1, r1, q1⟩ => ?_)
  obtain ⟨ev, eH⟩ := q1
  subst ev eH
  cases r1
  refine PySem.W.callWith_K (h₀ := X.base) I.ok.mod.kin hk (thn (ha.run pos pins s1 σ H1 (fun vs H2 => spX X.K n0 m vs H2 Q (fun cls d H' => W cls d σ H')) I1 ⟨φ, ρ, μ, ws, μ1, rs, e1, fun φ1 vs H2 g1 c1 r1 => ⟨φ1, μ1, ws, c1, r1, hl, q.grow g1⟩⟩) fun us s2 ⟨vs, H2, I2, r, q2⟩ => ⟨I2.kIn, ?_⟩) he hpl
  exact run_fnS (E := fun σ cls d H' => W cls d σ H') F hr hb (passAt tk σ) I2 r q2
/-! the suites of "except R as n": what is read off the error -/
/-- the error that a suite holds, its value -/
def ErrAt (K : PySem.W.Frag) (φ : Ph) (H : Hp) (σ : L2.St) (i : Nat) (a : Addr) (cls : Value) (d : Option Addr) (C : Addr) (f : Str) (p : PyData) : Prop := σ[i]? = some (some (.ref a)) ∧ cls = .ref C ∧ ∃ dd v, d = some dd ∧ H dd = some (.xd [(f, v)]) ∧ Da K φ.av H p v
/-- n.f as a rule that tells data -/
def tErr (K : PySem.W.Frag) (i : Nat) (a : Addr) (cls : Value) (d : Option Addr) (C : Addr) (f : Str) (p : PyData) : TE := fun σ H Q => ∃ φ ρ μ, RS K φ σ H ρ μ ∧ ErrAt K φ H σ i a cls d C f p ∧ Post K φ H μ (.d p) Q
theorem pe_err {a : Addr} {oe : Obj} {cls : Value} {d : Option Addr} {pn : List (Addr × Obj)} {f : Str} {bmB : List Value} {newId : String} {C fI : Addr} {q : PyData} (T : LowC X.K X.mg x f bmB newId C fI) (hz : Zc cls d oe) (hf : ∃ vs, oe.data = .fields vs)
    (hN : X.N[i]? = some n := by rfl) (hv : Vis X.env.scope n := by first | exact Or.inl rfl | exact Or.inr (Or.inl rfl) | exact Or.inr (Or.inr rfl)) (hdb : (n == ("__debug__" : Str)) = false := by decide) (hcd : (n == ("__classdict__" : Str)) = false := by decide)
    (hb : attributeBase (.Name n p) f X.env (eval (.Name n p) X.env) = eval (.Name n p) X.env := by rfl) : PE (X.suite a ((a, oe) :: pn)) (.Attribute (.Name n p) f pos) (tErr X.K i a cls d C f q) :=
  PE.to (pe_byLowG T hz hf (pe_var (X := X.suite a ((a, oe) :: pn)) hN hv hdb hcd) hb) fun σ H Q ⟨φ, ρ, μ, rs, ⟨h1, h2, dd, v, h3, h4, h5⟩, k⟩ => ⟨_, h1, rfl, h2, dd, v, h3, h4, k φ v H (.refl _ _) rs.c h5⟩
end
/-! list(range(n)), tuple(range(n)) -/
@[simp] def eLstRg (f : EF) (ρ : Rho) (μ : Mu) : Option (Vw × Mu) := match f ρ μ with
  | some (.d (.int n), μ1) => if 0 ≤ n ∧ n ≤ 1000 then some (.d (.list (rngD 0 n.toNat)), μ1) else none
  | _ => none
theorem rgV_da {K : PySem.W.Frag} {A : List Addr} {H : Hp} (n : Int) : DaAll K A H (rngD 0 n.toNat) (rgV 0 n) := by
  have e1 : rngD 0 n.toNat = ((List.range n.toNat).map fun (i : Nat) => (0 : Int) + (i : Int)).map PyData.int := by unfold rngD; rw [List.map_map]; rfl
  have e2 : rgV 0 n = ((List.range n.toNat).map fun (i : Nat) => (0 : Int) + (i : Int)).map V.int := by unfold rgV; rw [List.map_map, Int.sub_zero]; rfl
  rw [e1, e2]
  exact DaAll.ints _
theorem ej_lstRg {X : Cx} {e : Expr} {f : EF} {p p2 pos pos2 : Pos} (hc : X.calm = true) (hm : X.mg "list" = none) (hm2 : X.mg "range" = none) (he : PE X e (tE X.K f)) (hg : Gl X "list" := by rfl) (hg2 : Gl X "range" := by rfl)
    (na2 : starEach [e] X.env = (false, eval e X.env) :: starEach [] X.env := by rfl) (na : starEach [.Call (.Name "range" p2) [e] [] pos2] X.env = (false, eval (.Call (.Name "range" p2) [e] [] pos2) X.env) :: starEach [] X.env := by rfl) :
    PE X (.Call (.Name "list" p) [.Call (.Name "range" p2) [e] [] pos2] [] pos) (tE X.K (eLstRg f)) :=
  PE.to (pe_listRg hc hg hm (prg_1 hg2 hm2 he na2) na) fun σ H Q ⟨φ, ρ, μ, w, μ', rs, e, k⟩ => by
    unfold eLstRg at e
    split at e
    · rename_i n μ1 e1
      split at e
      · rename_i hn
        cases e
        refine ⟨φ, ρ, μ, _, _, rs, e1, fun φ1 v H1 g1 c1 r1 => ?_⟩
        cases r1
        exact ⟨n, rfl, .of_le (by omega) (by omega) (by omega) (by omega), fun q hq => new_lst c1 (rgV_da n) (fun φ4 v4 H4 g4 c4 r4 => k φ4 v4 H4 (g1.trans g4) c4 r4) q hq⟩
      · cases e
    · cases e
end VL
end
section
set_option Elab.async false
set_option linter.all false
set_option maxRecDepth 100000
set_option maxHeartbeats 2000000
namespace VL
open PySem PySem.Spec PyProof.Rows L2
variable [LawTabs]
theorem RS.off {K : PySem.W.Frag} {φ : Ph} {σ : L2.St} {H : Hp} {ρ : Rho} {μ : Mu} (r : RS K φ σ H ρ μ) (i : Nat) (x : Option V) : RS K φ (σ.set i x) H (ρ.set i none) μ := by
  refine ⟨r.c, by simp [r.len], fun j u hj => ?_⟩
  by_cases e : j = i
  · subst e
    by_cases hl : j < ρ.length
    · rw [List.getElem?_set_self hl] at hj; cases hj
    · rw [List.getElem?_eq_none (by simpa using hl)] at hj; cases hj
  · rw [List.getElem?_set_ne (Ne.symm e)] at hj
    obtain ⟨v, h1, h2⟩ := r.at_ j u hj
    exact ⟨v, by rw [List.getElem?_set_ne (Ne.symm e)]; exact h1, h2⟩
/-- what is raised alone is told -/
@[simp] def xEx (n : Nat) (m : XM) (fa : AF) (ρ : Rho) (μ : Mu) : Option SX := match fa ρ μ with
  | some (ws, μ1) => if ws.length = n then (match m μ1 ws with
    | some (.ex e μ2) => some (.ex e μ2)
    | _ => none) else none
  | none => none
theorem xEx_some {K : PySem.W.Frag} {φ : Ph} {H : Hp} {D : Ends} {W : XK} {n : Nat} {m : XM} {fa : AF} {ρ : Rho} {μ : Mu} (k : SXP K φ H D W (xEx n m fa ρ μ)) : ∃ ws μ1 e μ2, fa ρ μ = some (ws, μ1) ∧ ws.length = n ∧ m μ1 ws = some (.ex e μ2) ∧ XP K φ H W e μ2 := by
  unfold xEx at k
  split at k
  · rename_i ws μ1 e1
    split at k
    · rename_i hl
      split at k
      · rename_i e μ2 e2
        exact ⟨ws, μ1, e, μ2, e1, hl, e2, k⟩
      · exact k.elim
    · exact k.elim
  · exact k.elim
section
variable {X : Cx} {W : XK} {k j n i : Nat} {x y z : Str} {m : XM} {mz : FM} {e : Expr} {es : List Expr} {fa : AF} {p py pz pos pos2 spos : Pos}
theorem xj_asgX (hN : X.N.Nodup) (he : PE X e (tXE X.K W n m fa)) (hi : X.N[i]? = some y := by rfl) (hx : Loc X.env.scope y := by first | exact Or.inl rfl | exact Or.inr rfl) (hs : swapsWith e (some (.Name y py)) spos.line X.env = pure false := by rfl)
    (hf : X.fn y = true ∨ X.env.scope.names.lookup y = some .local := by first | exact .inl rfl | exact .inr rfl) : PS X (.Assign [.Name y py] e spos) (tX X.K W (xEx n m fa)) := PS.to (ps_set hN hi hx he hs hf) fun D σ H ⟨φ, ρ, μ, rs, k⟩ => by
  obtain ⟨ws, μ1, e, μ2, e1, hl, e2, k⟩ := xEx_some k
  exact ⟨φ, ρ, μ, rs, ws, μ1, e1, hl, by rw [e2]; exact k⟩
/-- g(f(..)), f raising -/
theorem xe_in (c : CalM X.prog X.w X.K X.mg X.base j z 1 mz) (hr : Room j X.A) (he : PE X e (tXE X.K W n m fa)) (hg : Gl X z := by rfl) (hdb : (z == ("__debug__" : Str)) = false := by decide)
    (hs : starEach [e] X.env = (false, eval e X.env) :: starEach [] X.env := by rfl) (hpl : (backTo pos2 (starEach [] X.env)).any (·.1) = false := by rfl) : PE X (.Call (.Name z pz) [e] [] pos2) (fun σ H _ => ∃ φ ρ μ, RS X.K φ σ H ρ μ ∧ ∃ ws μ1 e μ2, fa ρ μ = some (ws, μ1) ∧ ws.length = n ∧ m μ1 ws = some (.ex e μ2) ∧ XP X.K φ H W e μ2) := by
  obtain ⟨f, fd, ps, F, hm, hk, hb⟩ := c.ex
  refine PE.to (pe_call F hr hg hm hk hb .nil pass0 (pa_cons he pa_nil hs) hdb hs hpl) fun σ H Q ⟨φ, ρ, μ, rs, ws, μ1, e, μ2, e1, hl, e2, k⟩ => ?_
  exact ⟨φ, ρ, μ, rs, ws, μ1, e1, hl, by rw [e2]; exact k⟩
theorem xj_asgX2 (hN : X.N.Nodup) (he : PE X e (fun σ H _ => ∃ φ ρ μ, RS X.K φ σ H ρ μ ∧ ∃ ws μ1 e μ2, fa ρ μ = some (ws, μ1) ∧ ws.length = n ∧ m μ1 ws = some (.ex e μ2) ∧ XP X.K φ H W e μ2)) (hi : X.N[i]? = some y := by rfl) (hx : Loc X.env.scope y := by first | exact Or.inl rfl | exact Or.inr rfl) (hs : swapsWith e (some (.Name y py)) spos.line X.env = pure false := by rfl)
    (hf : X.fn y = true ∨ X.env.scope.names.lookup y = some .local := by first | exact .inl rfl | exact .inr rfl) : PS X (.Assign [.Name y py] e spos) (tX X.K W (xEx n m fa)) := PS.to (ps_set hN hi hx he hs hf) fun D σ H ⟨φ, ρ, μ, rs, k⟩ => by
  obtain ⟨ws, μ1, e, μ2, e1, hl, e2, k⟩ := xEx_some k
  exact ⟨φ, ρ, μ, rs, ws, μ1, e, μ2, e1, hl, e2, k⟩
/-- a call within a try -/
def tXW (K : PySem.W.Frag) (W : WX) (n : Nat) (m : XM) (fa : AF) : TE := fun σ H Q => ∃ φ ρ μ, RS K φ σ H ρ μ ∧ ∃ ws μ1, fa ρ μ = some (ws, μ1) ∧ ws.length = n ∧ XRP K φ H Q (fun cls d H' => W cls d σ H') (m μ1 ws)
theorem xe_callW {W : WX} (tk : Takes X W) (c : CalX X.prog X.w X.K X.mg X.base k x n m) (hr : Room k X.A) (ha : PA X (e :: es) (tA X.K fa)) (hg : Gl X x := by rfl) (hdb : (x == ("__debug__" : Str)) = false := by decide)
    (he : starEach (e :: es) X.env = (false, eval e X.env) :: starEach es X.env := by rfl) (hpl : (backTo pos (starEach es X.env)).any (·.1) = false := by rfl) : PE X (.Call (.Name x p) (e :: es) [] pos) (tXW X.K W n m fa) := by
  obtain ⟨fd, ps, F, hm, hk, hb⟩ := c.ex
  refine PE.to (pe_callS (E := WE W) F hr hg hm hk hb (fun σ => passAt tk σ) ha hdb he hpl) fun σ H Q ⟨φ, ρ, μ, rs, ws, μ1, e1, hl, k⟩ => ?_
  exact ⟨φ, ρ, μ, ws, μ1, rs, e1, fun φ1 vs H1 g1 c1 r1 => ⟨φ1, μ1, ws, c1, r1, hl, k.grow g1⟩⟩
end
/-! ### try: f(..) except R as n: if n.f != (t,): return .. | return n.f == (t,) -/
/-- the error that is wished for -/
def isErr (R f t : Str) : Xc → Bool
  | .low c g (.tuple [.str u]) => decide (c = R) && (decide (g = f) && decide (u = t))
  | _ => false
theorem isErr_eq {R f t : Str} {e : Xc} (h : isErr R f t e = true) : e = .low R f (.tuple [.str t]) := by
  unfold isErr at h
  split at h
  · simp only [Bool.and_eq_true, decide_eq_true_eq] at h
    obtain ⟨rfl, rfl, rfl⟩ := h
    rfl
  · cases h
@[simp] def sTryV (L : Str → Option (Nat × XM)) (i ie : Nat) (R f t : Str) (fa : AF) (ρ : Rho) (μ : Mu) : Option SR := match ρ[i]? with
  | some (some (.d (.dict [(.str q, .str x)]))) => if q = "def" ∧ ie < ρ.length then (match L x with
    | some (n, m) => (match fa ρ μ with
      | some (ws, μ1) => if ws.length = n then (match m μ1 ws with
        | some (.ex e μ2) => if isErr R f t e = true then some (.nx (ρ.set ie none) μ2) else none
        | _ => none) else none
      | none => none)
    | none => none) else none
  | _ => none
@[simp] def sTryR (n : Nat) (m : XM) (ie : Nat) (R f t : Str) (fa : AF) (ρ : Rho) (μ : Mu) : Option SR := if ie < ρ.length then (match fa ρ μ with
  | some (ws, μ1) => if ws.length = n then (match m μ1 ws with
    | some (.ex e μ2) => if isErr R f t e = true then some (.rt (.d (.bool true)) μ2) else none
    | _ => none) else none
  | none => none) else none
section
variable {X : Cx} {k i ie n0 : Nat} {R f t nv ne : Str} {L : Str → Option (Nat × XM)} {fa : AF} {e : Expr} {es : List Expr} {bmB : List Value} {newId : String} {fI : Addr} {m : XM} {x : Str}
/-- the first suite -/
def tsIf (K : PySem.W.Frag) (ie : Nat) (C : Addr) (f t : Str) (a : Addr) (cls : Value) (d : Option Addr) : TS := fun D σ H => ∃ φ ρ μ, RS K φ σ H ρ μ ∧ ErrAt K φ H σ ie a cls d C f (.tuple [.str t]) ∧ ∀ φ' H', Grow φ φ' H H' → RS K φ' σ H' ρ μ → D.nx σ H'
def tsRt (K : PySem.W.Frag) (ie : Nat) (C : Addr) (f t : Str) (a : Addr) (cls : Value) (d : Option Addr) : TS := fun D σ H => ∃ φ ρ μ, RS K φ σ H ρ μ ∧ ErrAt K φ H σ ie a cls d C f (.tuple [.str t]) ∧ ∀ φ' H', Grow φ φ' H H' → RS K φ' σ H' ρ μ → D.rt (.bl true) H'
theorem eqv_one (t : Str) : PyData.eqv (.tuple [.str t]) (.tuple [.str t]) = true := by simp [PyData.eqv, PyData.eqvAll]
theorem tup_one {K : PySem.W.Frag} {ρ : Rho} {μ : Mu} (t : Str) : eTup (aCons (eC (.str t)) aNil) ρ μ = some (.d (.tuple [.str t]), μ) := by simp
theorem su_if {a : Addr} {oe : Obj} {cls : Value} {d : Option Addr} {pn : List (Addr × Obj)} {b : Bool} {j j2 kk : Nat} {p1 p2 p3 p4 p5 p6 p7 p8 : Pos} (hu : X.A.units + 200 < cLine) (T : LowC X.K X.mg R f bmB newId (He.ga X.K R) fI) (hz : Zc cls d oe) (hf : ∃ vs, oe.data = .fields vs)
    (hN : X.N[ie]? = some ne := by rfl) (hv : Vis X.env.scope ne := by first | exact Or.inl rfl | exact Or.inr (Or.inl rfl) | exact Or.inr (Or.inr rfl)) (hdb : (ne == ("__debug__" : Str)) = false := by decide) (hcd : (ne == ("__classdict__" : Str)) = false := by decide)
    (hb : attributeBase (.Name ne p1) f X.env (eval (.Name ne p1) X.env) = eval (.Name ne p1) X.env := by rfl) :
    PSs (X.suite a ((a, oe) :: pn)) [.If (.Compare (.Attribute (.Name ne p1) f p2) [.NotEq] [.Tuple [.Constant (.str t) j p3] kk p4] p5) [.Return (some (.Constant (.bool b) j2 p6)) p7] [] p8] (tsIf X.K ie (He.ga X.K R) f t a cls d) :=
  PSs.to (pss_one (ps_if (pt_cmpR (X := X.suite a ((a, oe) :: pn)) (op_neP (X := X.suite a ((a, oe) :: pn)) hu) (pe_err (q := .tuple [.str t]) T hz hf hN hv hdb hcd hb) (ej_tup (X := X.suite a ((a, oe) :: pn)) (aj_cons ej_str aj_nil)) rfl) (pss_one (ps_ret pe_bl)) pss_nil)) fun D σ H ⟨φ, ρ, μ, rs, er, k⟩ => by
    refine ⟨φ, ρ, μ, rs, er, fun φ1 v H1 g1 c1 r1 => ⟨φ1, ρ, μ, .d (.tuple [.str t]), μ, rs.step g1.w c1, tup_one (K := X.K) t, fun φ2 u H2 g2 c2 r2 => ?_⟩⟩
    refine ⟨.tuple [.str t], .tuple [.str t], Da.dp _ _ rfl (Da.step g2.w _ _ r1), Da.dp _ _ rfl r2, rfl, rfl, by simp [PyData.depth, PyData.depthAll], false, by simp [eqv_one], ?_⟩
    refine L2.iteF ?_
    exact k φ2 H2 (g1.trans g2) ((rs.step g1.w c1).step g2.w c2)
theorem su_rt {a : Addr} {oe : Obj} {cls : Value} {d : Option Addr} {pn : List (Addr × Obj)} {j kk : Nat} {p1 p2 p3 p4 p5 p8 : Pos} (hu : X.A.units + 200 < cLine) (T : LowC X.K X.mg R f bmB newId (He.ga X.K R) fI) (hz : Zc cls d oe) (hf : ∃ vs, oe.data = .fields vs)
    (hN : X.N[ie]? = some ne := by rfl) (hv : Vis X.env.scope ne := by first | exact Or.inl rfl | exact Or.inr (Or.inl rfl) | exact Or.inr (Or.inr rfl)) (hdb : (ne == ("__debug__" : Str)) = false := by decide) (hcd : (ne == ("__classdict__" : Str)) = false := by decide)
    (hb : attributeBase (.Name ne p1) f X.env (eval (.Name ne p1) X.env) = eval (.Name ne p1) X.env := by rfl) :
    PSs (X.suite a ((a, oe) :: pn)) [.Return (some (.Compare (.Attribute (.Name ne p1) f p2) [.Eq] [.Tuple [.Constant (.str t) j p3] kk p4] p5)) p8] (tsRt X.K ie (He.ga X.K R) f t a cls d) :=
  PSs.to (pss_one (ps_ret (pe_cmpR (X := X.suite a ((a, oe) :: pn)) (op_eqP (X := X.suite a ((a, oe) :: pn)) hu) (pe_err (q := .tuple [.str t]) T hz hf hN hv hdb hcd hb) (ej_tup (X := X.suite a ((a, oe) :: pn)) (aj_cons ej_str aj_nil)) rfl))) fun D σ H ⟨φ, ρ, μ, rs, er, k⟩ => by
    refine ⟨φ, ρ, μ, rs, er, fun φ1 v H1 g1 c1 r1 => ⟨φ1, ρ, μ, .d (.tuple [.str t]), μ, rs.step g1.w c1, tup_one (K := X.K) t, fun φ2 u H2 g2 c2 r2 => ?_⟩⟩
    refine ⟨.tuple [.str t], .tuple [.str t], Da.dp _ _ rfl (Da.step g2.w _ _ r1), Da.dp _ _ rfl r2, rfl, rfl, by simp [PyData.depth, PyData.depthAll], ?_⟩
    have e : (if (false : Bool) = true then !PyData.eqv (.tuple [.str t]) (.tuple [.str t]) else PyData.eqv (.tuple [.str t]) (.tuple [.str t])) = true := by simp [eqv_one]
    rw [e]
    exact k φ2 H2 (g1.trans g2) ((rs.step g1.w c1).step g2.w c2)
theorem err_at {K : PySem.W.Frag} {φ : Ph} {H : Hp} {σ : L2.St} {ρ : Rho} {μ : Mu} {C : Addr} {q : PyData} {d : Addr} {v : V} {a : Addr} (rs : RS K φ σ H ρ μ) (hi : ie < ρ.length) (hd : H d = some (.xd [(f, v)])) (hq : Da K φ.av H q v) : ErrAt K φ H (σ.set ie (some (.ref a))) ie a (.ref C) (some d) C f q :=
  ⟨by rw [List.getElem?_set_self (by rw [rs.len]; exact hi)], rfl, d, v, rfl, hd, hq⟩
theorem trj_if {b b2 : Bool} {j j2 j3 kk : Nat} {p0 p1 p2 p3 p4 p5 p6 p7 p8 p9 q1 q2 q3 q4 q5 : Pos} (hst : X.stack = X.env :: X.outer) (hfm : X.env.frame = some X.env.locals) (hNd : X.N.Nodup) (hln : X.env.kindOf ne = some .local) (C : ∀ x n m, L x = some (n, m) → CalX X.prog X.w X.K X.mg X.base k x n m) (hr : Room k X.A)
    (T : LowC X.K X.mg R f bmB newId (He.ga X.K R) fI) (ex : PySem.W.exmOne X.K (.ref (He.ga X.K R)) (.ref (He.ga X.K R)) = some true) (ha : ∀ pn xe, PA (X.tr pn xe) (e :: es) (tA X.K fa)) (hgR : Gl X R) (hdR : (R == ("__debug__" : Str)) = false)
    (hNv : X.N[i]? = some nv := by rfl) (hN : X.N[ie]? = some ne := by rfl) (hvv : Vis X.env.scope nv := by first | exact Or.inl rfl | exact Or.inr (Or.inl rfl) | exact Or.inr (Or.inr rfl)) (hv : Vis X.env.scope ne := by first | exact Or.inl rfl | exact Or.inr (Or.inl rfl) | exact Or.inr (Or.inr rfl)) (hdbv : (nv == ("__debug__" : Str)) = false := by decide) (hcdv : (nv == ("__classdict__" : Str)) = false := by decide) (hdb : (ne == ("__debug__" : Str)) = false := by decide) (hcd : (ne == ("__classdict__" : Str)) = false := by decide)
    (hb : attributeBase (.Name ne p1) f X.env (eval (.Name ne p1) X.env) = eval (.Name ne p1) X.env := by rfl) (he : starEach (e :: es) X.env = (false, eval e X.env) :: starEach es X.env := by rfl) (hpl : (backTo q2 (starEach es X.env)).any (·.1) = false := by rfl) (hsw : swapsWith (.Call (.Name nv q1) (e :: es) [] q2) none q3.line X.env = pure false := by rfl) :
    PS X (.Try [.Expr (.Call (.Name nv q1) (e :: es) [] q2) q3, .Return (some (.Constant (.bool b2) j3 q4)) q5] [.ExceptHandler (some (.Name R p0)) (some ne) [.If (.Compare (.Attribute (.Name ne p1) f p2) [.NotEq] [.Tuple [.Constant (.str t) j p3] kk p4] p5) [.Return (some (.Constant (.bool b) j2 p6)) p7] [] p8] p9] [] [] pos) (tS X.K (sTryV L i ie R f t fa)) := by
  refine PS.to (ps_try_mix (l := [(.ref (He.ga X.K R), some ie, tsIf X.K ie (He.ga X.K R) f t)]) (Wo := fun _ _ _ _ => False) (tb := fun W => tSeq (tDrop (tXV X.K W L i fa)) (tRet (tC (.bl b2)))) hst hfm hNd (fun u s' ⟨_, _, _, _, _, _, _, _, _, _, _, _, _, _, _, _, z⟩ => z.elim) (fun W pn xe tk _ => pss_cons (ps_expr (xe_callV (X := X.tr pn xe) tk C hr (ha pn xe) hNv hvv hdbv hcdv he hpl) hsw) (pss_one (ps_ret pe_bl)))
    (.named ⟨hgR, hdR, .inl T.gC⟩ hN hln (fun a oe cls d pn hz hf => su_if (hu200 hr) T hz hf hN hv hdb hcd hb) .nil)) ?_
  rintro D σ H ⟨φ, ρ, μ, rs, k⟩
  unfold sTryV at k
  split at k
  · rename_i q x hix
    split at k
    · rename_i hq
      obtain ⟨rfl, hie⟩ := hq
      split at k
      · rename_i n m hL
        split at k
        · rename_i ws μ1 e1
          split at k
          · rename_i hl
            split at k
            · rename_i er μ2 e2
              split at k
              · rename_i hE
                rw [isErr_eq hE] at e2
                refine ⟨φ, ρ, μ, rs, x, n, m, ws, μ1, hix, hL, e1, hl, ?_⟩
                rw [e2]
                intro φ1 H1 d v g1 c1 hd hp
                refine ⟨true, ex, fun _ a ha => ?_, fun z => by cases z⟩
                have rs1 := rs.step g1.w c1
                exact ⟨φ1, ρ.set ie none, μ2, rs1.off ie _, err_at rs1 hie hd hp, fun φ2 H2 g2 rs2 => k φ2 _ H2 (g1.trans g2) (by
                  have := rs2.off ie none
                  rw [show (ρ.set ie none).set ie none = ρ.set ie none from by simp] at this
                  exact this)⟩
              · exact k.elim
            · exact k.elim
          · exact k.elim
        · exact k.elim
      · exact k.elim
    · exact k.elim
  · exact k.elim
theorem trj_rt {j kk : Nat} {p0 p1 p2 p3 p4 p5 p8 p9 q1 q2 q3 : Pos} {pos : Pos} (hst : X.stack = X.env :: X.outer) (hfm : X.env.frame = some X.env.locals) (hNd : X.N.Nodup) (hln : X.env.kindOf ne = some .local) (c : CalX X.prog X.w X.K X.mg X.base k x n0 m) (hr : Room k X.A)
    (T : LowC X.K X.mg R f bmB newId (He.ga X.K R) fI) (ex : PySem.W.exmOne X.K (.ref (He.ga X.K R)) (.ref (He.ga X.K R)) = some true) (ha : ∀ pn xe, PA (X.tr pn xe) (e :: es) (tA X.K fa)) (hgR : Gl X R) (hdR : (R == ("__debug__" : Str)) = false)
    (hN : X.N[ie]? = some ne := by rfl) (hv : Vis X.env.scope ne := by first | exact Or.inl rfl | exact Or.inr (Or.inl rfl) | exact Or.inr (Or.inr rfl)) (hdb : (ne == ("__debug__" : Str)) = false := by decide) (hcd : (ne == ("__classdict__" : Str)) = false := by decide) (hg : Gl X x := by rfl) (hdx : (x == ("__debug__" : Str)) = false := by decide)
    (hb : attributeBase (.Name ne p1) f X.env (eval (.Name ne p1) X.env) = eval (.Name ne p1) X.env := by rfl) (he : starEach (e :: es) X.env = (false, eval e X.env) :: starEach es X.env := by rfl) (hpl : (backTo q2 (starEach es X.env)).any (·.1) = false := by rfl) (hsw : swapsWith (.Call (.Name x q1) (e :: es) [] q2) none q3.line X.env = pure false := by rfl) :
    PS X (.Try [.Expr (.Call (.Name x q1) (e :: es) [] q2) q3] [.ExceptHandler (some (.Name R p0)) (some ne) [.Return (some (.Compare (.Attribute (.Name ne p1) f p2) [.Eq] [.Tuple [.Constant (.str t) j p3] kk p4] p5)) p8] p9] [] [] pos) (tS X.K (sTryR n0 m ie R f t fa)) := by
  refine PS.to (ps_try_mix (l := [(.ref (He.ga X.K R), some ie, tsRt X.K ie (He.ga X.K R) f t)]) (Wo := fun _ _ _ _ => False) (tb := fun W => tDrop (tXW X.K W n0 m fa)) hst hfm hNd (fun u s' ⟨_, _, _, _, _, _, _, _, _, _, _, _, _, _, _, _, z⟩ => z.elim) (fun W pn xe tk _ => pss_one (ps_expr (xe_callW (X := X.tr pn xe) tk c hr (ha pn xe) hg hdx he hpl) hsw))
    (.named ⟨hgR, hdR, .inl T.gC⟩ hN hln (fun a oe cls d pn hz hf => su_rt (hu200 hr) T hz hf hN hv hdb hcd hb) .nil)) ?_
  rintro D σ H ⟨φ, ρ, μ, rs, k⟩
  unfold sTryR at k
  split at k
  · rename_i hie
    split at k
    · rename_i ws μ1 e1
      split at k
      · rename_i hl
        split at k
        · rename_i er μ2 e2
          split at k
          · rename_i hE
            rw [isErr_eq hE] at e2
            refine ⟨φ, ρ, μ, rs, ws, μ1, e1, hl, ?_⟩
            rw [e2]
            intro φ1 H1 d v g1 c1 hd hp
            refine ⟨true, ex, fun _ a ha => ?_, fun z => by cases z⟩
            have rs1 := rs.step g1.w c1
            exact ⟨φ1, ρ.set ie none, μ2, rs1.off ie _, err_at rs1 hie hd hp, fun φ2 H2 g2 rs2 => k φ2 (.bl true) H2 (g1.trans g2) rs2.c rfl⟩
          · exact k.elim
        · exact k.elim
      · exact k.elim
    · exact k.elim
  · exact k.elim
end
end VL
end
section
set_option Elab.async false
set_option linter.all false
set_option maxRecDepth 100000
/-! enumerate over a tuple, a list of data -/
namespace VL
open PySem PySem.Spec PyProof.Rows L2
variable [LawTabs]
set_option maxHeartbeats 1000000 in
theorem meets_enum1 {v : Value} {o : Obj} {H : Heap → Prop} (B : Begins v o H) :
    Meets (Builtin.«enumerate.__new__» ⟨[.type "enumerate", v], []⟩) (fun _ R s => H s.heap ∧
      R (.ok (.ret (.ref (s.heap.push o).objs.size))) { s with heap := (s.heap.push o).push { cls := .type "enumerate", data := .fields #[.none, .bool false, .ref s.heap.objs.size, rawInt 0, .none, .none] } }) :=
  .of_wp fun prog w A R s h => by
    obtain ⟨hp, g, d, tk, os⟩ := s; obtain ⟨h1, h⟩ := h
    have hsub := sub_enumerate
    have q1 : ∀ {A' : Around} {E : Value → Shared → Prop} {Q : Value → Shared → Prop}, Q (.ref hp.objs.size) ⟨hp.push o, g, d, tk, os⟩ → wpAny (model prog w) A' (pyIter v) Q E ⟨hp, g, d, tk, os⟩ :=
      fun q => B.iter prog w _ _ ⟨hp, g, d, tk, os⟩ _ h1 q
    wp_walk using q1
    refine wpAny_stack_any fun st => wpAny_pure ?_
    split
    · rename_i c _ _ _ _ _
      cases (c == Value.type "enumerate") <;> (wp_walk using q1; exact ⟨_, rfl, h⟩)
    · wp_walk using q1
      exact ⟨_, rfl, h⟩
theorem enum_new {prog : Program} {w : World} {A : Around} {E : Value → Shared → Prop} {s : Shared} {v : Value} {o : Obj} {H : Heap → Prop} {Q : Value → Shared → Prop} (B : Begins v o H) (h1 : H s.heap)
    (h : ∀ h', IsEnum h' (s.heap.objs.size + 1) s.heap.objs.size 0 .none → h'.get? s.heap.objs.size = some o → (∀ b o, s.heap.get? b = some o → h'.get? b = some o) → Q (.ref (s.heap.objs.size + 1)) { s with heap := h' }) :
    wpAny (model prog w) A (call (.type "enumerate") [v]) Q E s := by
  refine callType_new F.called_enumerate (by decide) (F.typeCall_enumerate_1 _) (F.newCall_enumerate_1 _) (fun obj => F.args_object_init_2 obj _) F.entry_enumerate_new (meets_enum1 B) ⟨h1, ?_⟩
  have hz : (s.heap.push o).objs.size = s.heap.objs.size + 1 := Heap.size_push ..
  show _ ∧ _
  rw [hz]
  have he : IsEnum ((s.heap.push o).push { cls := .type "enumerate", data := .fields #[.none, .bool false, .ref s.heap.objs.size, rawInt 0, .none, .none] }) (s.heap.objs.size + 1) s.heap.objs.size 0 .none := by
    have := Heap.get?_push_size (s.heap.push o) (o := { cls := .type "enumerate", data := .fields #[.none, .bool false, .ref s.heap.objs.size, rawInt 0, .none, .none] }) rfl
    rw [hz] at this; exact this
  exact ⟨⟨_, he, rfl⟩, h _ he (Heap.get?_push_of_some _ (Heap.get?_push_size _ B.free)) fun b o x => Heap.get?_push_of_some _ (Heap.get?_push_of_some _ x)⟩
/-- the items of the tuple at a, each in a new pair -/
def IteT (K : PySem.W.Frag) (a : Addr) : It :=
  ⟨fun i H => ∃ (xs : List V) (x : V), SqT K H a xs ∧ xs[i]? = some x, fun i H v H' => ∃ T x, v = .ref T ∧ H T = none ∧ H' = upd H T (.tup [.int (i : Nat), x]) ∧ ∀ xs, SqT K H a xs → xs[i]? = some x, fun i H => ∃ xs : List V, SqT K H a xs ∧ xs.length ≤ i⟩
theorem tup_ne {h : Heap} {a it : Addr} {its : Array Value} {n : String} {o : Obj} (p : IsTup h a its) (e : h.get? it = some o) (hc : o.cls = .type n) (hn : n ≠ "tuple") : a ≠ it := fun z => by
  obtain ⟨o2, e2, c2, _⟩ := p
  rw [z, e] at e2
  cases e2
  rw [hc] at c2
  exact hn (by cases c2; rfl)
theorem turn_enumT {P : Program} {w : World} {K : PySem.W.Frag} {elts : List Expr} {kk : Nat} {tpos : Pos} (a e it : Addr) :
    Turn P w K (.Tuple elts kk tpos) (IteT K a) [e, it] e (fun i h => (∃ old, IsEnum h e it ((i : Nat) : Int) old) ∧ h.IsTupleIter it a i ∧ e ≠ it) where
  mem := by simp
  obj := fun i h st b hb => by
    obtain ⟨⟨old, he⟩, ⟨o, ho, hc, hd⟩, _⟩ := st
    have e' : b = e ∨ b = it := by simpa using hb
    rcases e' with z | z
    · rw [z]; exact ⟨_, he, fun v q => nomatch q⟩
    · rw [z]; exact ⟨o, ho, fun v q => by rw [hd] at q; cases q⟩
  keep := fun i h h' st k => let ⟨⟨old, he⟩, hi, hne⟩ := st; ⟨⟨old, k e (by simp) _ he⟩, hi.at fun o q => k it (by simp) o q, hne⟩
  item := by
    intro X hP hw hK hc i pins s σ H E I hf st hg
    subst hP hw hK
    obtain ⟨⟨old, he⟩, hit, hne⟩ := st
    obtain ⟨xs, x, hq, hx⟩ := hg
    obtain ⟨its, rv, p, hz⟩ := I.tuple hq
    obtain ⟨u, hu, ru⟩ := rv.get hx
    have hel : e < s.heap.objs.size := Heap.lt_size he
    have hil : it < s.heap.objs.size := by obtain ⟨_, q, _⟩ := hit; exact Heap.lt_size q
    have ne1 : a ≠ it := by obtain ⟨_, q, qc, _⟩ := id hit; exact tup_ne p q qc (by decide)
    have ne2 : a ≠ e := tup_ne p he rfl (by decide)
    have hl : i < its.toArray.size := by
      have : its[i]? = some u := hu
      have := (List.getElem?_eq_some_iff.mp this).1
      simpa using this
    refine wpAny_pyNext_enum_itemC (Draws.tuple (show X.A.in1.handled = none from I.ok.hd hc) it a ne1 its.toArray) he ⟨hit, show s.heap.IsTuple a its.toArray from p⟩ hl hne (by
      intro hm
      have : e = it ∨ e = a := by simpa using hm
      rcases this with z | z
      · exact hne z
      · exact ne2 z.symm) fun y h' tk hy ho hit' hT hsz hk => ?_
    have ey : y = u := by
      have h1 : its[i]? = some y := by simpa using hy
      have h2 : its[i]? = some u := hu
      rw [h1] at h2; cases h2; rfl
    subst ey
    refine ⟨_, rfl, wpAny_letOwnedTupleGo_enum (s := { s with heap := h', toks := tk + 1 }) ho fun h'' he' sb => ?_⟩
    have hT2 : h''.get? s.heap.objs.size = some { cls := .type "tuple", data := .seq #[.int i tk, y] } := (sb.2 _ (Nat.ne_of_gt hel)).trans hT
    have new : ObjOk X.prog X.w (upd H s.heap.objs.size (.tup [.int (i : Nat), x])) h'' s.heap.objs.size (.tup [.int (i : Nat), x]) :=
      ⟨by show 2 ≤ sizeLine; decide, [.int i tk, y], .cons ⟨_, rfl⟩ (.cons ru .nil), ⟨_, hT2, rfl, _, rfl⟩⟩
    have I1 : Inv X pins σ (upd H s.heap.objs.size (.tup [.int (i : Nat), x])) { s with heap := h'', toks := tk + 1 } :=
      I.turnedNew (ch := [e, it]) (fun b ob hb q => (sb.2 b (fun z => hb (by simp [z]))).trans (hk b ob (fun z => hb (by simp [z])) (fun z => hb (by simp [z])) q)) hf (Nat.le_refl _) new
    refine ⟨.ref s.heap.objs.size, _, I1, rfl, ⟨_, x, rfl, I.hok.fresh (Nat.le_refl _), rfl, fun ys hy => by rw [I.tuple_inj hy hq]; exact hx⟩, ⟨⟨y, ?_⟩, hit'.1.at fun o q => (sb.2 it (Ne.symm hne)).trans q, hne⟩, fun b hb => ?_⟩
    · have e1 : ((i + 1 : Nat) : Int) = (i : Int) + 1 := by omega
      rw [e1]; exact he'
    · have hb' : b < s.heap.objs.size := by
        have e' : b = e ∨ b = it := by simpa using hb
        rcases e' with z | z
        · rw [z]; exact hel
        · rw [z]; exact hil
      rw [upd_ne (Nat.ne_of_lt hb')]
      exact (hf b hb).1
  done := by
    intro X hP hw hK hc i pins s σ H E I hf st hg
    subst hP hw hK
    obtain ⟨⟨old, he⟩, hit, hne⟩ := st
    obtain ⟨xs, hq, hx⟩ := hg
    obtain ⟨its, rv, p, hz⟩ := I.tuple hq
    obtain ⟨f0, f1, f2, f3, f4, f5⟩ := hf it (by simp)
    have hl := rv.length
    have hT : s.TypeIs (.ref e) "enumerate" := ⟨_, he, rfl⟩
    unfold pyNext
    refine wpAny_bind (wpAny_attempt (wpAny_callSpecial?_slot (name := Str.ofString "__next__") hT F.slot_enumerate_next
      (wpAny_call_entry F.slot_enumerate_next hT F.entry_enumerate_next ?_ (F.args_enumerate_next_1 _))))
    show wpAny _ _ (field (.ref e) 2 >>= _) _ _ _
    refine wpAny_bind (wpAny_field he rfl (x := .ref it) rfl ?_)
    refine wpAny_bind (wpAny_nextOf_tuple_end (show X.A.in1.handled = none from I.ok.hd hc) hit (show s.heap.IsTuple a its.toArray from p) (by simp; omega) fun h' x eb hx' => ?_)
    obtain ⟨o, ho, hcl⟩ := hx'
    refine wpAny_bind (wpAny_isInstance (T := "StopIteration") (b := true) ⟨o, ho, hcl⟩ isSubtype_stop ?_)
    exact wpAny_pure ⟨rfl, I.turned (t' := s.toks) (fun b o hb q => eb b o hb q) f0 f1 f3 f4 f5⟩
  self := fun A i s Q E st h => let ⟨⟨_, he⟩, _⟩ := st; wpAny_pyIter_enum he h
def iEnumA (K : PySem.W.Frag) (ta : TA) : TI := fun σ H R => ta σ H fun vs H1 => ∃ a xs, vs = [.ref a] ∧ ((SqL K H1 a xs ∧ R (Ite K a) H1) ∨ (SqT K H1 a xs ∧ R (IteT K a) H1))
theorem pi_enumA {X : Cx} {e : Expr} {ta : TA} {p pos tpos : Pos} {elts : List Expr} {kk : Nat} (hg : Gl X "enumerate") (hm : X.mg "enumerate" = none) (ha : PA X [e] ta) (hs : starEach [e] X.env = [(false, eval e X.env)] := by rfl) :
    PI X (.Tuple elts kk tpos) (.Call (.Name "enumerate" p) [e] [] pos) (iEnumA X.K ta) := by
  refine ⟨fun pins s σ H R I h => ?_⟩
  refine Call_ (ld_blt I hg hm boot_enumerate (PyProof.Rows.callWith_type1 (thn (ha.run pos pins s σ H _ I h) fun us s1 ⟨vs, H1, I1, r1, q1⟩ => ?_) hs rfl))
  obtain ⟨a, xs, ex, q1⟩ := q1
  subst ex
  cases r1 with
  | cons r rr =>
    cases rr
    cases r
    have fp : ∀ b ∈ [s1.heap.objs.size + 1, s1.heap.objs.size], FpOk X pins H1 b := fun b hb => by
      have e' : b = s1.heap.objs.size + 1 ∨ b = s1.heap.objs.size := by simpa using hb
      have hle : s1.heap.objs.size ≤ b := by
        rcases e' with z | z
        · rw [z]; exact Nat.le_add_right _ _
        · rw [z]; exact Nat.le_refl _
      exact I1.fpOk hle (I1.hok.fresh hle)
    rcases q1 with ⟨hq, q⟩ | ⟨hq, q⟩
    · obtain ⟨its, rv, p', hz⟩ := I1.list hq
      refine enum_new (begins_list a its.toArray) p'.isList fun h' he hit hk => wpAny_pyIter_enum he ?_
      exact ⟨s1.heap.objs.size + 1, [s1.heap.objs.size + 1, s1.heap.objs.size], _, _, H1, rfl, I1.kept (t' := s1.toks) hk, turn_enum a (s1.heap.objs.size + 1) s1.heap.objs.size, ⟨⟨.none, he⟩, ⟨_, hit, rfl, rfl⟩, Nat.succ_ne_self _⟩, fp, q⟩
    · obtain ⟨its, rv, p', hz⟩ := I1.tuple hq
      refine enum_new (begins_tuple a its.toArray) (show s1.heap.IsTuple a its.toArray from p') fun h' he hit hk => wpAny_pyIter_enum he ?_
      exact ⟨s1.heap.objs.size + 1, [s1.heap.objs.size + 1, s1.heap.objs.size], _, _, H1, rfl, I1.kept (t' := s1.toks) hk, turn_enumT a (s1.heap.objs.size + 1) s1.heap.objs.size, ⟨⟨.none, he⟩, ⟨_, hit, rfl, rfl⟩, Nat.succ_ne_self _⟩, fp, q⟩
def enumD (ds : List PyData) : List PyData := ds.mapIdx fun i d => .tuple [.int (i : Nat), d]
theorem enumD_get {ds : List PyData} {i : Nat} {d : PyData} (e : (enumD ds)[i]? = some d) : ∃ x, ds[i]? = some x ∧ d = .tuple [.int (i : Nat), x] := by
  unfold enumD at e
  rw [List.getElem?_mapIdx] at e
  obtain ⟨x, e1, e2⟩ := Option.map_eq_some_iff.mp e
  exact ⟨x, e1, e2.symm⟩
theorem enumD_len {ds : List PyData} : (enumD ds).length = ds.length := by simp [enumD]
@[simp] def iEnumV (f : EF) (ρ : Rho) (μ : Mu) : Option (List PyData × Option Nat × Mu) := match f ρ μ with
  | some (.d (.tuple ds), μ1) => some (enumD ds, none, μ1)
  | some (.d (.list ds), μ1) => some (enumD ds, none, μ1)
  | _ => none
theorem int_da {K : PySem.W.Frag} {A : List Addr} {H : Hp} {i : Int} : Da K A H (.int i) (.int i) := rfl
theorem ij_enumV {X : Cx} {e : Expr} {elts : List Expr} {kk : Nat} {f : EF} {p pos tpos : Pos} (hm : X.mg "enumerate" = none) (he : PE X e (tE X.K f)) (hg : Gl X "enumerate" := by rfl) (hs : starEach [e] X.env = [(false, eval e X.env)] := by rfl) :
    PI X (.Tuple elts kk tpos) (.Call (.Name "enumerate" p) [e] [] pos) (tI X.K (iEnumV f)) :=
  PI.to (pi_enumA hg hm (aj_cons he aj_nil hs) hs) fun σ H R ⟨φ, ρ, μ, ds, src, μ', rs, e, k⟩ => by
  unfold iEnumV at e
  split at e
  · rename_i es μ1 e1
    cases e
    refine ⟨φ, ρ, μ, [.d (.tuple es)], _, rs, by unfold aCons aNil; rw [e1]; rfl, fun φ1 vs H1 g1 c1 r1 => ?_⟩
    obtain ⟨v, ev, r⟩ := rvs1 r1
    obtain ⟨a, xs, e2, h1, h2⟩ := id r
    subst ev e2
    refine ⟨a, xs, rfl, .inr ⟨h1, k φ1 _ H1 g1 c1 fun φ' H' μ2 g c _ i => ?_⟩⟩
    have h1' := g.sqT h1
    have h2' := DaAll.step g _ _ h2
    refine ⟨fun d e => ?_, fun hl => ⟨xs, h1', by rw [← h2.len]; rw [enumD_len] at hl; exact hl⟩⟩
    obtain ⟨x, e3, rfl⟩ := enumD_get e
    obtain ⟨z, e4, e5⟩ := h2'.get e3
    refine ⟨⟨xs, z, h1', e4⟩, fun x' H'' hy => ?_⟩
    obtain ⟨T, x1, rfl, hT, rfl, q1⟩ := hy
    have w1 := q1 xs h1'
    rw [e4] at w1; cases w1
    exact ⟨Grow.laid hT, c.laid hT, pair_da hT int_da e5⟩
  · rename_i es μ1 e1
    cases e
    refine ⟨φ, ρ, μ, [.d (.list es)], _, rs, by unfold aCons aNil; rw [e1]; rfl, fun φ1 vs H1 g1 c1 r1 => ?_⟩
    obtain ⟨v, ev, r⟩ := rvs1 r1
    obtain ⟨a, xs, e2, _, h1, h2⟩ := id r
    subst ev e2
    refine ⟨a, xs, rfl, .inl ⟨SqL.of h1, k φ1 _ H1 g1 c1 fun φ' H' μ2 g c _ i => ?_⟩⟩
    obtain ⟨b, ys, e3, _, h1', h2'⟩ := Da.step g (.list es) _ r
    cases e3
    have ll : xs.length = ys.length := by rw [← h2.len, h2'.len]
    refine ⟨fun d e => ?_, fun hl => ⟨ys, SqL.of h1', by rw [← ll, ← h2.len]; rw [enumD_len] at hl; exact hl⟩⟩
    obtain ⟨x, e3, rfl⟩ := enumD_get e
    obtain ⟨z, e4, e5⟩ := h2'.get e3
    refine ⟨⟨ys, z, SqL.of h1', e4⟩, fun x' H'' hy => ?_⟩
    obtain ⟨T, x1, rfl, hT, rfl, q1⟩ := hy
    have w1 := q1 ys (SqL.of h1')
    rw [e4] at w1; cases w1
    exact ⟨Grow.laid hT, c.laid hT, pair_da hT int_da e5⟩
  · cases e
end VL
end
section
set_option Elab.async false
set_option linter.all false
set_option maxRecDepth 100000
set_option exponentiation.threshold 30000
/-! math.lcm of numbers of up to some two thousand digits -/
namespace VL
open PySem PySem.Spec PyProof.Rows L2
variable [LawTabs]
def lcmOk (a b : Int) : Prop := a.natAbs.log2 < 8000 ∧ b.natAbs.log2 < 8000 ∧ (a.natAbs.lcm b.natAbs).log2 < bitsLine
theorem lcm_call {prog : Program} {w : World} {A : Around} {E : Value → Shared → Prop} {s : Shared} {Q : Value → Shared → Prop} {a b : Int} {t u : Tok} (h0 : lcmOk a b) (h : Q (.int ((a.natAbs.lcm b.natAbs : Nat) : Int) s.toks) { s with toks := s.toks + 1 }) :
    wpAny (model prog w) A (call (.builtin "math.lcm") [.int a t, .int b u]) Q E s := by
  obtain ⟨ha, hb, hl⟩ := h0
  have e1 : Nat.lcm 1 a.natAbs = a.natAbs := by simp [Nat.lcm]
  have m1 : (max 1 a.natAbs).log2 < 8000 := by
    rcases Nat.le_total a.natAbs 1 with z | z
    · rw [Nat.max_eq_left z]; decide
    · rw [Nat.max_eq_right z]; exact ha
  have m2 : (max a.natAbs b.natAbs).log2 < 8000 := by
    rcases Nat.le_total a.natAbs b.natAbs with z | z
    · rw [Nat.max_eq_right z]; exact hb
    · rw [Nat.max_eq_left z]; exact ha
  have g := PySem.W.mg_run_lcm a t b u (by omega) (by omega) (by rw [e1]; exact hl)
  rw [e1] at g
  exact call_function_meets PySem.W.MGF.kind_lcm PySem.W.MGF.plain_lcm PySem.W.MGF.entry_lcm (PySem.W.MGF.args_lcm _ _) g.meets h
def rLcm : List V → Hp → VK → Prop := fun vs H Q => ∃ a b : Int, vs = [.int a, .int b] ∧ lcmOk a b ∧ Q (.int ((a.natAbs.lcm b.natAbs : Nat) : Int)) H
theorem cr_lcm {X : Cx} : CallR X (.builtin "math.lcm") rLcm := by
  intro pins s σ H vs us Q I r h
  obtain ⟨a, b, rfl, h0, q⟩ := h
  obtain ⟨t, u, rfl⟩ := Vals.int2 r
  exact lcm_call h0 ⟨.int _, H, I.tok _, ⟨_, rfl⟩, q⟩
open Classical in
@[simp] noncomputable def oLcm (_ : Mu) (ws : List Vw) : Option Vw := match ws with
  | [.d (.int i), .d (.int j)] => if lcmOk i j then some (.d (.int (i.natAbs.lcm j.natAbs : Nat))) else none
  | _ => none
theorem oLcm_ok {K : PySem.W.Frag} : OL K rLcm oLcm := by
  intro φ H μ ws w vs Q c r e k
  unfold oLcm at e
  split at e
  · rename_i i j
    split at e
    · rename_i h0
      cases e
      obtain ⟨u, v, rfl, h, h2⟩ := rvs2 r
      cases h
      cases h2
      exact ⟨i, j, rfl, h0, post_here k c rfl⟩
    · cases e
  · cases e
end VL
end
section
set_option Elab.async false
set_option linter.all false
set_option maxRecDepth 100000
/-! zip of three tuples -/
namespace VL
open PySem PySem.Spec PyProof.Rows L2
variable [LawTabs]
def Itz3 (K : PySem.W.Frag) (n : Nat) (a b c : Addr) : It :=
  ⟨fun i H => ∃ (xs ys zs : List V) (x y z : V), SqT K H a xs ∧ SqT K H b ys ∧ SqT K H c zs ∧ xs[i]? = some x ∧ ys[i]? = some y ∧ zs[i]? = some z ∧ i < n,
    fun i H v H' => ∃ T x y z, v = .ref T ∧ H T = none ∧ H' = upd H T (.tup [x, y, z]) ∧ (∀ l, SqT K H a l → l[i]? = some x) ∧ (∀ l, SqT K H b l → l[i]? = some y) ∧ ∀ l, SqT K H c l → l[i]? = some z,
    fun i H => ∃ xs ys zs : List V, SqT K H a xs ∧ SqT K H b ys ∧ SqT K H c zs ∧ n ≤ xs.length ∧ n ≤ ys.length ∧ n ≤ zs.length ∧ (n = xs.length ∨ n = ys.length ∨ n = zs.length) ∧ n ≤ i⟩
theorem turn_zip3 {P : Program} {w : World} {K : PySem.W.Frag} {elts : List Expr} {kk : Nat} {tpos : Pos} {n : Nat} {a b c z TI TO i1 i2 i3 : Addr} (D : ZipSep3 z TI TO i1 i2 i3 [i1, a] [i2, b] [i3, c]) :
    Turn P w K (.Tuple elts kk tpos) (Itz3 K n a b c) [z, TI, TO, i1, i2, i3] z (fun i h => i ≤ n ∧ IsZip h z TI TO .none ∧ IsTupOf3 h TI (.ref i1) (.ref i2) (.ref i3) ∧ (∃ x y u, IsTupOf3 h TO x y u) ∧ h.IsTupleIter i1 a i ∧ h.IsTupleIter i2 b i ∧ h.IsTupleIter i3 c i) where
  mem := by simp
  obj := fun i h st q hq => by
    obtain ⟨_, hz, hTI, ⟨x, y, u, hTO⟩, ⟨o1, e1, _, d1⟩, ⟨o2, e2, _, d2⟩, ⟨o3, e3, _, d3⟩⟩ := st
    simp only [List.mem_cons, List.not_mem_nil, or_false] at hq
    rcases hq with rfl | rfl | rfl | rfl | rfl | rfl
    · exact ⟨_, hz, fun v q => nomatch q⟩
    · exact ⟨_, hTI, fun v q => nomatch q⟩
    · exact ⟨_, hTO, fun v q => nomatch q⟩
    · exact ⟨o1, e1, fun v q => by rw [d1] at q; cases q⟩
    · exact ⟨o2, e2, fun v q => by rw [d2] at q; cases q⟩
    · exact ⟨o3, e3, fun v q => by rw [d3] at q; cases q⟩
  keep := fun i h h' st k => by
    obtain ⟨hin, hz, hTI, ⟨x, y, u, hTO⟩, h1, h2, h3⟩ := st
    exact ⟨hin, k z (by simp) _ hz, k TI (by simp) _ hTI, ⟨x, y, u, k TO (by simp) _ hTO⟩, h1.at fun o q => k i1 (by simp) o q, h2.at fun o q => k i2 (by simp) o q, h3.at fun o q => k i3 (by simp) o q⟩
  item := by
    intro X hP hw hK hc i pins s σ H E I hf st hg
    subst hP hw hK
    obtain ⟨hin, hz, hTI, ⟨x0, y0, u0, hTO⟩, h1, h2, h3⟩ := st
    obtain ⟨xs, ys, zs, x, y, v, hqx, hqy, hqz, hx, hy, hv, hlt⟩ := hg
    obtain ⟨its, rv, p, _⟩ := I.tuple hqx
    obtain ⟨its2, rv2, p2, _⟩ := I.tuple hqy
    obtain ⟨its3, rv3, p3, _⟩ := I.tuple hqz
    obtain ⟨u1, hu1, ru1⟩ := rv.get hx
    obtain ⟨u2, hu2, ru2⟩ := rv2.get hy
    obtain ⟨u3, hu3, ru3⟩ := rv3.get hv
    have hzl : z < s.heap.objs.size := Heap.lt_size hz
    have hh : X.A.in1.handled = none := I.ok.hd hc
    have ne : ∀ {t it : Addr} {its : Array Value} {j : Nat}, IsTup s.heap t its → s.heap.IsTupleIter it t j → t ≠ it := fun p ⟨_, q, qc, _⟩ => tup_ne p q qc (by decide)
    have lt : ∀ {l : List Value} {u : Value}, l[i]? = some u → i < l.toArray.size := fun h => by
      have := (List.getElem?_eq_some_iff.mp h).1
      simpa using this
    refine wpAny_pyNext_zipD3_item D (Draws.tuple hh i1 a (ne p h1) its.toArray) (Draws.tuple hh i2 b (ne p2 h2) its2.toArray) (Draws.tuple hh i3 c (ne p3 h3) its3.toArray) hz hTI hTO ⟨h1, show s.heap.IsTuple a its.toArray from p⟩ ⟨h2, show s.heap.IsTuple b its2.toArray from p2⟩ ⟨h3, show s.heap.IsTuple c its3.toArray from p3⟩ (lt hu1) (lt hu2) (lt hu3) fun y1 y2 y3 h' tk e1 e2 e3 z' TO' h1' h2' h3' hT hsz hk => ?_
    have same : ∀ {l : List Value} {u y : Value}, l.toArray[i]? = some y → l[i]? = some u → y = u := fun {l u y} h h2 => by
      have h' : l[i]? = some y := by simpa using h
      rw [h'] at h2; cases h2; rfl
    obtain rfl := same e1 hu1
    obtain rfl := same e2 hu2
    obtain rfl := same e3 hu3
    refine ⟨_, rfl, wpAny_letOwnedTupleGo_zip (s := { s with heap := h', toks := tk }) z' fun h'' z'' sb => ?_⟩
    have hT2 : h''.get? s.heap.objs.size = some { cls := .type "tuple", data := .seq #[y1, y2, y3] } := (sb.2 _ (Nat.ne_of_gt hzl)).trans hT
    have new : ObjOk X.prog X.w (upd H s.heap.objs.size (.tup [x, y, v])) h'' s.heap.objs.size (.tup [x, y, v]) :=
      ⟨by show 3 ≤ sizeLine; decide, [y1, y2, y3], .cons ru1 (.cons ru2 (.cons ru3 .nil)), ⟨_, hT2, rfl, _, rfl⟩⟩
    have I1 : Inv X pins σ (upd H s.heap.objs.size (.tup [x, y, v])) { s with heap := h'', toks := tk } :=
      I.turnedNew (t' := tk) (ch := [z, TI, TO, i1, i2, i3]) (fun q o hb e => (sb.2 q (fun q' => hb (by simp [q']))).trans (hk q o (fun q' => hb (by simp [q'])) (fun q' => hb (by simp [q'])) (fun q' => hb (by simp [q'])) (fun q' => hb (by simp [q'])) (fun q' => hb (by simp [q'])) e)) hf (Nat.le_refl _) new
    refine ⟨.ref s.heap.objs.size, _, I1, rfl, ⟨_, x, y, v, rfl, I.hok.fresh (Nat.le_refl _), rfl, fun l hl => by rw [I.tuple_inj hl hqx]; exact hx, fun l hl => by rw [I.tuple_inj hl hqy]; exact hy, fun l hl => by rw [I.tuple_inj hl hqz]; exact hv⟩, ⟨hlt, z'', ?_, ⟨y1, y2, y3, ?_⟩, ?_, ?_, ?_⟩, fun q hq => ?_⟩
    · exact (sb.2 _ D.TIz).trans (hk _ _ D.TIz D.TITO D.TIi1 D.TIi2 D.TIi3 hTI)
    · exact (sb.2 _ D.TOz).trans TO'
    · exact h1'.1.at fun o q => (sb.2 _ (Ne.symm D.zi1)).trans q
    · exact h2'.1.at fun o q => (sb.2 _ (Ne.symm D.zi2)).trans q
    · exact h3'.1.at fun o q => (sb.2 _ (Ne.symm D.zi3)).trans q
    · have hqs : q < s.heap.objs.size := by
        have hq' := hq
        simp only [List.mem_cons, List.not_mem_nil, or_false] at hq'
        rcases hq' with r | r | r | r | r | r
        · rw [r]; exact hzl
        · rw [r]; exact Heap.lt_size hTI
        · rw [r]; exact Heap.lt_size hTO
        · rw [r]; obtain ⟨_, e, _⟩ := h1; exact Heap.lt_size e
        · rw [r]; obtain ⟨_, e, _⟩ := h2; exact Heap.lt_size e
        · rw [r]; obtain ⟨_, e, _⟩ := h3; exact Heap.lt_size e
      rw [upd_ne (Nat.ne_of_lt hqs)]
      exact (hf q hq).1
  done := by
    intro X hP hw hK hc i pins s σ H E I hf st hg
    subst hP hw hK
    obtain ⟨hin, hz, hTI, ⟨x0, y0, u0, hTO⟩, h1, h2, h3⟩ := st
    obtain ⟨xs, ys, zs, hqx, hqy, hqz, l1, l2, l3, hend, hni⟩ := hg
    obtain ⟨its, rv, p, _⟩ := I.tuple hqx
    obtain ⟨its2, rv2, p2, _⟩ := I.tuple hqy
    obtain ⟨its3, rv3, p3, _⟩ := I.tuple hqz
    have hh : X.A.in1.handled = none := I.ok.hd hc
    have ne : ∀ {t it : Addr} {its : Array Value} {j : Nat}, IsTup s.heap t its → s.heap.IsTupleIter it t j → t ≠ it := fun p ⟨_, q, qc, _⟩ => tup_ne p q qc (by decide)
    have r1 := rv.length
    have r2 := rv2.length
    have r3 := rv3.length
    refine wpAny_pyNext_zipD3_end D (Draws.tuple hh i1 a (ne p h1) its.toArray) (Draws.tuple hh i2 b (ne p2 h2) its2.toArray) (Draws.tuple hh i3 c (ne p3 h3) its3.toArray) hz hTI hTO ⟨h1, show s.heap.IsTuple a its.toArray from p⟩ ⟨h2, show s.heap.IsTuple b its2.toArray from p2⟩ ⟨h3, show s.heap.IsTuple c its3.toArray from p3⟩ (by simp; omega) (by simp; omega) (by simp; omega) (by simp; omega) fun h' tk hk => ?_
    exact ⟨rfl, I.turnedL (t' := tk) (ch := [z, TI, TO, i1, i2, i3]) (fun q o hb e => hk q o (fun q' => hb (by simp [q'])) (fun q' => hb (by simp [q'])) (fun q' => hb (by simp [q'])) (fun q' => hb (by simp [q'])) (fun q' => hb (by simp [q'])) e) hf⟩
  self := fun A i s Q E st h => wpAny_pyIter_zip st.2.1 h
def iZip3A (K : PySem.W.Frag) (ta : TA) : TI := fun σ H R => ta σ H fun vs H1 => ∃ n a b c xs ys zs, vs = [.ref a, .ref b, .ref c] ∧ SqT K H1 a xs ∧ SqT K H1 b ys ∧ SqT K H1 c zs ∧ R (Itz3 K n a b c) H1
theorem pi_zip3 {X : Cx} {e e2 e3 : Expr} {ta : TA} {p pos tpos : Pos} {elts : List Expr} {kk : Nat} (hg : Gl X "zip") (hm : X.mg "zip" = none) (ha : PA X [e, e2, e3] ta)
    (hs : starEach [e, e2, e3] X.env = (false, eval e X.env) :: starEach [e2, e3] X.env := by rfl) (hpl : (backTo pos (starEach [e2, e3] X.env)).any (·.1) = false := by rfl) :
    PI X (.Tuple elts kk tpos) (.Call (.Name "zip" p) [e, e2, e3] [] pos) (iZip3A X.K ta) := by
  refine ⟨fun pins s σ H R I h => ?_⟩
  refine Call_ (ld_blt I hg hm boot_zip (PyProof.Rows.callWith_type1 (thn (ha.run pos pins s σ H _ I h) fun us s1 ⟨vs, H1, I1, r1, q1⟩ => ?_) hs hpl))
  obtain ⟨n, a, b, c, xs, ys, zs, ex, hx, hy, hz, q⟩ := q1
  subst ex
  obtain ⟨u1, u2, u3, rfl, ra, rb, rc⟩ : ∃ u1 u2 u3, us = [u1, u2, u3] ∧ RelV (.ref a) u1 ∧ RelV (.ref b) u2 ∧ RelV (.ref c) u3 := by
    cases r1 with
    | cons r rr =>
      cases rr with
      | cons r2 rr2 =>
        cases rr2 with
        | cons r3 rr3 =>
          cases rr3
          exact ⟨_, _, _, rfl, r, r2, r3⟩
  obtain rfl : u1 = .ref a := ra
  obtain rfl : u2 = .ref b := rb
  obtain rfl : u3 = .ref c := rc
  obtain ⟨i1, _, p1, _⟩ := I1.tuple hx
  obtain ⟨i2, _, p2, _⟩ := I1.tuple hy
  obtain ⟨i3, _, p3, _⟩ := I1.tuple hz
  have lt : ∀ {t : Addr} {its : Array Value}, IsTup s1.heap t its → t < s1.heap.objs.size := fun ⟨_, e, _⟩ => Heap.lt_size e
  refine zip_begins3 (begins_tuple a i1.toArray) (begins_tuple b i2.toArray) (begins_tuple c i3.toArray) (show s1.heap.IsTuple a i1.toArray from p1) (show s1.heap.IsTuple b i2.toArray from p2) (show s1.heap.IsTuple c i3.toArray from p3) fun h' hzp hTI hTO g1 g2 g3 _ hk => wpAny_pyIter_zip hzp ?_
  refine ⟨s1.heap.objs.size + 5, [s1.heap.objs.size + 5, s1.heap.objs.size + 3, s1.heap.objs.size + 4, s1.heap.objs.size, s1.heap.objs.size + 1, s1.heap.objs.size + 2], _, _, H1, rfl, I1.kept (t' := s1.toks) hk,
    turn_zip3 (zip_sep3 (fp1 := [a]) (fp2 := [b]) (fp3 := [c]) (by simpa using lt p1) (by simpa using lt p2) (by simpa using lt p3)), ⟨Nat.zero_le _, hzp, hTI, ⟨_, _, _, hTO⟩, ⟨_, g1, rfl, rfl⟩, ⟨_, g2, rfl, rfl⟩, ⟨_, g3, rfl, rfl⟩⟩, fun q hq => ?_, q⟩
  have hle : s1.heap.objs.size ≤ q := by
    simp only [List.mem_cons, List.not_mem_nil, or_false] at hq
    rcases hq with r | r | r | r | r | r <;> rw [r] <;> first | exact Nat.le_refl _ | exact Nat.le_add_right _ _
  exact I1.fpOk hle (I1.hok.fresh hle)
def zip3D (xs ys zs : List PyData) : List PyData := (xs.zip (ys.zip zs)).map fun p => .tuple [p.1, p.2.1, p.2.2]
theorem zip3D_len {xs ys zs : List PyData} : (zip3D xs ys zs).length = min xs.length (min ys.length zs.length) := by simp [zip3D]
theorem zip3D_get {xs ys zs : List PyData} {i : Nat} {d : PyData} (e : (zip3D xs ys zs)[i]? = some d) : ∃ x y z, xs[i]? = some x ∧ ys[i]? = some y ∧ zs[i]? = some z ∧ d = .tuple [x, y, z] ∧ i < min xs.length (min ys.length zs.length) := by
  have hl := (List.getElem?_eq_some_iff.mp e).1
  rw [zip3D_len] at hl
  unfold zip3D at e
  rw [List.getElem?_map] at e
  obtain ⟨⟨x, y, z⟩, e1, e2⟩ := Option.map_eq_some_iff.mp e
  obtain ⟨h1, h2⟩ := List.getElem?_zip_eq_some.mp e1
  obtain ⟨h3, h4⟩ := List.getElem?_zip_eq_some.mp h2
  exact ⟨x, y, z, h1, h3, h4, e2.symm, hl⟩
@[simp] def iZip3 (f g h : EF) (ρ : Rho) (μ : Mu) : Option (List PyData × Option Nat × Mu) := match f ρ μ with
  | some (.d (.tuple xs), μ1) => (match g ρ μ1 with
    | some (.d (.tuple ys), μ2) => (match h ρ μ2 with
      | some (.d (.tuple zs), μ3) => some (zip3D xs ys zs, none, μ3)
      | _ => none)
    | _ => none)
  | _ => none
theorem trip_da {K : PySem.W.Frag} {φ : Ph} {H : Hp} {T : Addr} {x y z : V} {d e f : PyData} (hT : H T = none) (h1 : Da K φ.av H d x) (h2 : Da K φ.av H e y) (h3 : Da K φ.av H f z) : Da K φ.av (upd H T (.tup [x, y, z])) (.tuple [d, e, f]) (.ref T) :=
  ⟨T, [x, y, z], rfl, SqT.of upd_same, x, [y, z], rfl, Da.step (Grow.laid hT).w _ _ h1, y, [z], rfl, Da.step (Grow.laid hT).w _ _ h2, z, [], rfl, Da.step (Grow.laid hT).w _ _ h3, rfl⟩
theorem rvs3 {K : PySem.W.Frag} {φ : Ph} {H : Hp} {x y z : Vw} {vs : List V} (h : RVs K φ H [x, y, z] vs) : ∃ u v w, vs = [u, v, w] ∧ RV K φ H x u ∧ RV K φ H y v ∧ RV K φ H z w := by
  obtain ⟨u, r, e, h1, v, r2, e2, h2, w, r3, e3, h3, e4⟩ := h
  have e4' : r3 = [] := e4
  subst e e2 e3 e4'
  exact ⟨u, v, w, rfl, h1, h2, h3⟩
theorem ij_zip3 {X : Cx} {e e2 e3 : Expr} {elts : List Expr} {kk : Nat} {f g h : EF} {p pos tpos : Pos} (hm : X.mg "zip" = none) (he : PE X e (tE X.K f)) (he2 : PE X e2 (tE X.K g)) (he3 : PE X e3 (tE X.K h)) (hg : Gl X "zip" := by rfl)
    (hs : starEach [e, e2, e3] X.env = (false, eval e X.env) :: starEach [e2, e3] X.env := by rfl) (hs2 : starEach [e2, e3] X.env = (false, eval e2 X.env) :: starEach [e3] X.env := by rfl) (hs3 : starEach [e3] X.env = (false, eval e3 X.env) :: starEach [] X.env := by rfl) (hpl : (backTo pos (starEach [e2, e3] X.env)).any (·.1) = false := by rfl) :
    PI X (.Tuple elts kk tpos) (.Call (.Name "zip" p) [e, e2, e3] [] pos) (tI X.K (iZip3 f g h)) :=
  PI.to (pi_zip3 hg hm (aj_cons he (aj_cons he2 (aj_cons he3 aj_nil hs3) hs2) hs) hs hpl) fun σ H R ⟨φ, ρ, μ, ds, src, μ', rs, e, k⟩ => by
  unfold iZip3 at e
  split at e
  · rename_i xs μ1 e1
    split at e
    · rename_i ys μ2 e2
      split at e
      · rename_i zs μ3 e3
        cases e
        have ea : aCons f (aCons g (aCons h aNil)) ρ μ = some ([.d (.tuple xs), .d (.tuple ys), .d (.tuple zs)], μ') := by simp only [aCons, aNil, e1, e2, e3]; rfl
        refine ⟨φ, ρ, μ, _, _, rs, ea, fun φ1 vs H1 g1 c1 r1 => ?_⟩
        obtain ⟨u, v, w, rfl, ⟨a, us, q1, h1, s1⟩, ⟨b, vs, q2, h2, s2⟩, ⟨c, ws, q3, h3, s3⟩⟩ := rvs3 r1
        subst q1 q2 q3
        refine ⟨min xs.length (min ys.length zs.length), a, b, c, us, vs, ws, rfl, h1, h2, h3, k φ1 _ H1 g1 c1 fun φ' H' μ2 g c' _ i => ?_⟩
        have h1' := g.sqT h1
        have h2' := g.sqT h2
        have h3' := g.sqT h3
        have s1' := DaAll.step g _ _ s1
        have s2' := DaAll.step g _ _ s2
        have s3' := DaAll.step g _ _ s3
        have l1 := s1.len
        have l2 := s2.len
        have l3 := s3.len
        refine ⟨fun d e => ?_, fun hl => ⟨us, vs, ws, h1', h2', h3', by omega, by omega, by omega, by omega, by rw [zip3D_len] at hl; exact hl⟩⟩
        obtain ⟨d1, d2, d3, e4, e5, e6, rfl, hlt⟩ := zip3D_get e
        obtain ⟨z1, f1, f2⟩ := s1'.get e4
        obtain ⟨z2, f3, f4⟩ := s2'.get e5
        obtain ⟨z3, f5, f6⟩ := s3'.get e6
        refine ⟨⟨us, vs, ws, z1, z2, z3, h1', h2', h3', f1, f3, f5, hlt⟩, fun x H'' hy => ?_⟩
        obtain ⟨T, x1, x2, x3, rfl, hT, rfl, q1, q2, q3⟩ := hy
        have w1 := q1 us h1'
        have w2 := q2 vs h2'
        have w3 := q3 ws h3'
        rw [f1] at w1; cases w1
        rw [f3] at w2; cases w2
        rw [f5] at w3; cases w3
        exact ⟨Grow.laid hT, c'.laid hT, trip_da hT f2 f4 f6⟩
      · cases e
    · cases e
  · cases e
end VL
end
section
set_option Elab.async false
set_option linter.all false
set_option maxRecDepth 100000
/-! [x] * n as a list that is changed -/
namespace VL
open PySem PySem.Spec PyProof.Rows L2
variable [LawTabs]
@[simp] def eRepC (f g : EF) (ρ : Rho) (μ : Mu) : Option (Vw × Mu) := match f ρ μ with
  | some (x, μ1) => (match g ρ μ1 with
    | some (.d (.int k), μ2) => (toLm μ2 x).bind fun ds => if k ≤ 1000000 ∧ -1000000 ≤ k ∧ ds.length * k.toNat ≤ 1000000 then some (.loc μ2.length, μ2 ++ [(List.replicate k.toNat ds).flatten]) else none
    | _ => none)
  | none => none
theorem ej_mulC {X : Cx} {a b : Expr} {pos : Pos} {f g : EF} (ha : PE X a (tE X.K f)) (hb : PE X b (tE X.K g)) : PE X (.BinOp a .Mult b pos) (tE X.K (eRepC f g)) := PE.to (pe_op op_rep ha hb) fun σ H Q ⟨φ, ρ, μ, w, μ', rs, e, k⟩ => by
  unfold eRepC at e
  split at e
  · rename_i x μ1 e1
    split at e
    · rename_i i μ2 e2
      obtain ⟨ds, e3, e4⟩ := Option.bind_eq_some_iff.mp e
      split at e4
      · rename_i hl
        cases e4
        refine ⟨φ, ρ, μ, x, μ1, rs, e1, fun φ1 u H1 g1 c1 r1 => ?_⟩
        refine ⟨φ1, ρ, μ1, .d (.int i), _, rs.step g1 c1, e2, fun φ2 v H2 g2 c2 r2 => ?_⟩
        obtain ⟨a, xs, rfl, h1, h2⟩ := toLm_ok c2 (RV.step g2 _ _ r1) e3
        cases r2
        exact ⟨a, i, xs, rfl, rfl, h1, by omega, by omega, by rw [← h2.len]; exact size_ok hl.2.2, new_cell c2 (da_rep h2 _) fun φ3 v3 H3 g3 c3 r3 => k φ3 v3 H3 ((g1.trans g2).trans g3) c3 r3⟩
      · cases e4
    · cases e
  · cases e
end VL
end
section
set_option Elab.async false
set_option linter.all false
set_option maxRecDepth 100000
/-! zip of a tuple and a list; for .. in zip(tuple, changed list) -/
namespace VL
open PySem PySem.Spec PyProof.Rows L2
variable [LawTabs]
def ItzM (K : PySem.W.Frag) (n : Nat) (a b : Addr) : It :=
  ⟨fun i H => ∃ (xs ys : List V) (x y : V), SqT K H a xs ∧ SqL K H b ys ∧ xs[i]? = some x ∧ ys[i]? = some y ∧ i < n,
    fun i H v H' => ∃ T x y, v = .ref T ∧ H T = none ∧ H' = upd H T (.tup [x, y]) ∧ (∀ l, SqT K H a l → l[i]? = some x) ∧ (∀ l, SqL K H b l → l[i]? = some y),
    fun i H => ∃ xs ys : List V, SqT K H a xs ∧ SqL K H b ys ∧ n ≤ xs.length ∧ n ≤ ys.length ∧ (n = xs.length ∨ n = ys.length) ∧ n ≤ i⟩
theorem lst_ne {h : Heap} {a it : Addr} {its : Array Value} {o : Obj} (p : h.IsList a its) (e : h.get? it = some o) (hc : o.cls = .type "list_iterator") : a ≠ it := fun z => by
  obtain ⟨o2, e2, c2, _⟩ := p
  rw [z, e] at e2
  cases e2
  rw [hc] at c2
  exact absurd c2 (by decide)
theorem turn_zipM {P : Program} {w : World} {K : PySem.W.Frag} {elts : List Expr} {kk : Nat} {tpos : Pos} {n : Nat} {a b z TI TO i1 i2 : Addr} (D : ZipSep2 z TI TO i1 i2 [i1, a] [i2, b]) :
    Turn P w K (.Tuple elts kk tpos) (ItzM K n a b) [z, TI, TO, i1, i2] z (fun i h => i ≤ n ∧ IsZip h z TI TO .none ∧ IsTupOf2 h TI (.ref i1) (.ref i2) ∧ (∃ x y, IsTupOf2 h TO x y) ∧ h.IsTupleIter i1 a i ∧ h.IsListIter i2 b i) where
  mem := by simp
  obj := fun i h st q hq => by
    obtain ⟨_, hz, hTI, ⟨x, y, hTO⟩, ⟨o1, e1, _, d1⟩, ⟨o2, e2, _, d2⟩⟩ := st
    simp only [List.mem_cons, List.not_mem_nil, or_false] at hq
    rcases hq with rfl | rfl | rfl | rfl | rfl
    · exact ⟨_, hz, fun v q => nomatch q⟩
    · exact ⟨_, hTI, fun v q => nomatch q⟩
    · exact ⟨_, hTO, fun v q => nomatch q⟩
    · exact ⟨o1, e1, fun v q => by rw [d1] at q; cases q⟩
    · exact ⟨o2, e2, fun v q => by rw [d2] at q; cases q⟩
  keep := fun i h h' st k => by
    obtain ⟨hin, hz, hTI, ⟨x, y, hTO⟩, h1, h2⟩ := st
    exact ⟨hin, k z (by simp) _ hz, k TI (by simp) _ hTI, ⟨x, y, k TO (by simp) _ hTO⟩, h1.at fun o q => k i1 (by simp) o q, h2.at fun o q => k i2 (by simp) o q⟩
  item := by
    intro X hP hw hK hc i pins s σ H E I hf st hg
    subst hP hw hK
    obtain ⟨hin, hz, hTI, ⟨x0, y0, hTO⟩, h1, h2⟩ := st
    obtain ⟨xs, ys, x, y, hqx, hqy, hx, hy, hlt⟩ := hg
    obtain ⟨its, rv, p, _⟩ := I.tuple hqx
    obtain ⟨its2, rv2, p2, _⟩ := I.list hqy
    obtain ⟨u1, hu1, ru1⟩ := rv.get hx
    obtain ⟨u2, hu2, ru2⟩ := rv2.get hy
    have hzl : z < s.heap.objs.size := Heap.lt_size hz
    have hh : X.A.in1.handled = none := I.ok.hd hc
    have ne1 : a ≠ i1 := by obtain ⟨_, q, qc, _⟩ := id h1; exact tup_ne p q qc (by decide)
    have ne2 : b ≠ i2 := by obtain ⟨_, q, qc, _⟩ := id h2; exact lst_ne p2.isList q qc
    have lt : ∀ {l : List Value} {u : Value}, l[i]? = some u → i < l.toArray.size := fun h => by
      have := (List.getElem?_eq_some_iff.mp h).1
      simpa using this
    refine wpAny_pyNext_zipD2_item D (Draws.tuple hh i1 a ne1 its.toArray) (Draws.list hh i2 b ne2 its2.toArray) hz hTI hTO ⟨h1, show s.heap.IsTuple a its.toArray from p⟩ ⟨h2, p2.isList⟩ (lt hu1) (lt hu2) fun y1 y2 h' tk e1 e2 z' TO' h1' h2' hT hsz hk => ?_
    have same : ∀ {l : List Value} {u y : Value}, l.toArray[i]? = some y → l[i]? = some u → y = u := fun {l u y} h h2 => by
      have h' : l[i]? = some y := by simpa using h
      rw [h'] at h2; cases h2; rfl
    obtain rfl := same e1 hu1
    obtain rfl := same e2 hu2
    refine ⟨_, rfl, wpAny_letOwnedTupleGo_zip (s := { s with heap := h', toks := tk }) z' fun h'' z'' sb => ?_⟩
    have hT2 : h''.get? s.heap.objs.size = some { cls := .type "tuple", data := .seq #[y1, y2] } := (sb.2 _ (Nat.ne_of_gt hzl)).trans hT
    have new : ObjOk X.prog X.w (upd H s.heap.objs.size (.tup [x, y])) h'' s.heap.objs.size (.tup [x, y]) :=
      ⟨by show 2 ≤ sizeLine; decide, [y1, y2], .cons ru1 (.cons ru2 .nil), ⟨_, hT2, rfl, _, rfl⟩⟩
    have I1 : Inv X pins σ (upd H s.heap.objs.size (.tup [x, y])) { s with heap := h'', toks := tk } :=
      I.turnedNew (t' := tk) (ch := [z, TI, TO, i1, i2]) (fun q o hb e => (sb.2 q (fun q' => hb (by simp [q']))).trans (hk q o (fun q' => hb (by simp [q'])) (fun q' => hb (by simp [q'])) (fun q' => hb (by simp [q'])) (fun q' => hb (by simp [q'])) e)) hf (Nat.le_refl _) new
    have zi1 : i1 ≠ z := fun q => D.zf1 (by simp [q])
    have zi2 : i2 ≠ z := fun q => D.zf2 (by simp [q])
    refine ⟨.ref s.heap.objs.size, _, I1, rfl, ⟨_, x, y, rfl, I.hok.fresh (Nat.le_refl _), rfl, fun l hl => by rw [I.tuple_inj hl hqx]; exact hx, fun l hl => by rw [I.list_inj hl hqy]; exact hy⟩, ⟨hlt, z'', ?_, ⟨y1, y2, ?_⟩, ?_, ?_⟩, fun q hq => ?_⟩
    · exact (sb.2 _ D.TIz).trans (hk _ _ D.TIz D.TITO D.TIi1 D.TIi2 hTI)
    · exact (sb.2 _ D.TOz).trans TO'
    · exact h1'.1.at fun o q => (sb.2 _ zi1).trans q
    · exact h2'.1.at fun o q => (sb.2 _ zi2).trans q
    · have hqs : q < s.heap.objs.size := by
        have hq' := hq
        simp only [List.mem_cons, List.not_mem_nil, or_false] at hq'
        rcases hq' with r | r | r | r | r
        · rw [r]; exact hzl
        · rw [r]; exact Heap.lt_size hTI
        · rw [r]; exact Heap.lt_size hTO
        · rw [r]; obtain ⟨_, e, _⟩ := h1; exact Heap.lt_size e
        · rw [r]; obtain ⟨_, e, _⟩ := h2; exact Heap.lt_size e
      rw [upd_ne (Nat.ne_of_lt hqs)]
      exact (hf q hq).1
  done := by
    intro X hP hw hK hc i pins s σ H E I hf st hg
    subst hP hw hK
    obtain ⟨hin, hz, hTI, ⟨x0, y0, hTO⟩, h1, h2⟩ := st
    obtain ⟨xs, ys, hqx, hqy, l1, l2, hend, hni⟩ := hg
    obtain ⟨its, rv, p, _⟩ := I.tuple hqx
    obtain ⟨its2, rv2, p2, _⟩ := I.list hqy
    have hh : X.A.in1.handled = none := I.ok.hd hc
    have ne1 : a ≠ i1 := by obtain ⟨_, q, qc, _⟩ := id h1; exact tup_ne p q qc (by decide)
    have ne2 : b ≠ i2 := by obtain ⟨_, q, qc, _⟩ := id h2; exact lst_ne p2.isList q qc
    have r1 := rv.length
    have r2 := rv2.length
    refine wpAny_pyNext_zipD2_end D (Draws.tuple hh i1 a ne1 its.toArray) (Draws.list hh i2 b ne2 its2.toArray) hz hTI hTO ⟨h1, show s.heap.IsTuple a its.toArray from p⟩ ⟨h2, p2.isList⟩ (by simp; omega) (by simp; omega) (by simp; omega) fun h' tk hk => ?_
    exact ⟨rfl, I.turnedL (t' := tk) (ch := [z, TI, TO, i1, i2]) (fun q o hb e => hk q o (fun q' => hb (by simp [q'])) (fun q' => hb (by simp [q'])) (fun q' => hb (by simp [q'])) (fun q' => hb (by simp [q'])) e) hf⟩
  self := fun A i s Q E st h => wpAny_pyIter_zip st.2.1 h
def iZipMA (K : PySem.W.Frag) (ta : TA) : TI := fun σ H R => ta σ H fun vs H1 => ∃ n a b xs ys, vs = [.ref a, .ref b] ∧ SqT K H1 a xs ∧ SqL K H1 b ys ∧ R (ItzM K n a b) H1
theorem pi_zipM {X : Cx} {e e2 : Expr} {ta : TA} {p pos tpos : Pos} {elts : List Expr} {kk : Nat} (hg : Gl X "zip") (hm : X.mg "zip" = none) (ha : PA X [e, e2] ta)
    (hs : starEach [e, e2] X.env = (false, eval e X.env) :: starEach [e2] X.env := by rfl) (hpl : (backTo pos (starEach [e2] X.env)).any (·.1) = false := by rfl) :
    PI X (.Tuple elts kk tpos) (.Call (.Name "zip" p) [e, e2] [] pos) (iZipMA X.K ta) := by
  refine ⟨fun pins s σ H R I h => ?_⟩
  refine Call_ (ld_blt I hg hm boot_zip (PyProof.Rows.callWith_type1 (thn (ha.run pos pins s σ H _ I h) fun us s1 ⟨vs, H1, I1, r1, q1⟩ => ?_) hs hpl))
  obtain ⟨n, a, b, xs, ys, ex, hx, hy, q⟩ := q1
  subst ex
  obtain ⟨u1, u2, rfl, ra, rb⟩ : ∃ u1 u2, us = [u1, u2] ∧ RelV (.ref a) u1 ∧ RelV (.ref b) u2 := by
    cases r1 with
    | cons r rr =>
      cases rr with
      | cons r2 rr2 =>
        cases rr2
        exact ⟨_, _, rfl, r, r2⟩
  obtain rfl : u1 = .ref a := ra
  obtain rfl : u2 = .ref b := rb
  obtain ⟨i1, _, p1, _⟩ := I1.tuple hx
  obtain ⟨i2, _, p2, _⟩ := I1.list hy
  have lt : ∀ {t : Addr} {its : Array Value}, IsTup s1.heap t its → t < s1.heap.objs.size := fun ⟨_, e, _⟩ => Heap.lt_size e
  have lt2 : b < s1.heap.objs.size := by obtain ⟨_, e, _⟩ := p2.isList.typeIs; exact Heap.lt_size e
  refine zip_begins2 (begins_tuple a i1.toArray) (begins_list b i2.toArray) (show s1.heap.IsTuple a i1.toArray from p1) p2.isList fun h' hzp hTI hTO g1 g2 _ hk => wpAny_pyIter_zip hzp ?_
  refine ⟨s1.heap.objs.size + 4, [s1.heap.objs.size + 4, s1.heap.objs.size + 2, s1.heap.objs.size + 3, s1.heap.objs.size, s1.heap.objs.size + 1], _, _, H1, rfl, I1.kept (t' := s1.toks) hk,
    turn_zipM (zip_sep2 (fp1 := [a]) (fp2 := [b]) (by simpa using lt p1) (by simpa using lt2)), ⟨Nat.zero_le _, hzp, hTI, ⟨_, _, hTO⟩, ⟨_, g1, rfl, rfl⟩, ⟨_, g2, rfl, rfl⟩⟩, fun q hq => ?_, q⟩
  have hle : s1.heap.objs.size ≤ q := by
    simp only [List.mem_cons, List.not_mem_nil, or_false] at hq
    rcases hq with r | r | r | r | r <;> rw [r] <;> first | exact Nat.le_refl _ | exact Nat.le_add_right _ _
  exact I1.fpOk hle (I1.hok.fresh hle)
theorem zipD_len {xs ys : List PyData} : (zipD xs ys).length = min xs.length ys.length := by simp [zipD]
/-- zip of two tuples, of two lists, of a tuple and a list -/
def iZipM (f g : EF) (ρ : Rho) (μ : Mu) : Option (List PyData × Option Nat × Mu) := match f ρ μ with
  | some (.d (.tuple xs), μ1) => (match g ρ μ1 with
    | some (.d (.list ys), μ2) => some (zipD xs ys, none, μ2)
    | some (.d (.tuple ys), μ2) => some (zipD xs ys, none, μ2)
    | _ => none)
  | some (.d (.list xs), μ1) => (match g ρ μ1 with
    | some (.d (.list ys), μ2) => some (zipD xs ys, none, μ2)
    | _ => none)
  | _ => none
theorem ij_zipM {X : Cx} {e e2 : Expr} {elts : List Expr} {kk : Nat} {f g : EF} {p pos tpos : Pos} (hm : X.mg "zip" = none) (he : PE X e (tE X.K f)) (he2 : PE X e2 (tE X.K g)) (hg : Gl X "zip" := by rfl)
    (hs : starEach [e, e2] X.env = (false, eval e X.env) :: starEach [e2] X.env := by rfl) (hs2 : starEach [e2] X.env = (false, eval e2 X.env) :: starEach [] X.env := by rfl) (hpl : (backTo pos (starEach [e2] X.env)).any (·.1) = false := by rfl) :
    PI X (.Tuple elts kk tpos) (.Call (.Name "zip" p) [e, e2] [] pos) (tI X.K (iZipM f g)) := ⟨fun pins s σ H R I ⟨φ, ρ, μ, ds, src, μ', rs, e, k⟩ => by
  unfold iZipM at e
  split at e
  · rename_i xs μ1 e1
    split at e
    · rename_i ys μ2 e2
      cases e
      have ea : aCons f (aCons g aNil) ρ μ = some ([.d (.tuple xs), .d (.list ys)], μ') := by simp only [aCons, aNil, e1, e2]; rfl
      refine (pi_zipM hg hm (aj_cons he (aj_cons he2 aj_nil hs2) hs) hs hpl).run pins s σ H R I ⟨φ, ρ, μ, _, _, rs, ea, fun φ1 vs H1 g1 c1 r1 => ?_⟩
      obtain ⟨u, v, rfl, ⟨a, us, q1, h1, s1⟩, q2⟩ := rvs2 r1
      obtain ⟨b, vs, q3, _, h2, s2⟩ := id q2
      subst q1 q3
      refine ⟨min xs.length ys.length, a, b, us, vs, rfl, h1, SqL.of h2, k φ1 _ H1 g1 c1 fun φ' H' μ2 g c' _ i => ?_⟩
      have h1' := g.sqT h1
      have s1' := DaAll.step g _ _ s1
      obtain ⟨b', vs', q4, _, h2', s2'⟩ := Da.step g (.list ys) _ q2
      cases q4
      have l1 := s1'.len
      have l2 := s2'.len
      refine ⟨fun d e => ?_, fun hl => ⟨us, vs', h1', SqL.of h2', by omega, by omega, by omega, by rw [zipD_len] at hl; exact hl⟩⟩
      have hlt : i < min xs.length ys.length := by
        have := (List.getElem?_eq_some_iff.mp e).1
        rwa [zipD_len] at this
      obtain ⟨d1, d2, e4, e5, rfl⟩ := zipD_get e
      obtain ⟨z1, f1, f2⟩ := s1'.get e4
      obtain ⟨z2, f3, f4⟩ := s2'.get e5
      refine ⟨⟨us, vs', z1, z2, h1', SqL.of h2', f1, f3, hlt⟩, fun x H'' hy => ?_⟩
      obtain ⟨T, x1, x2, rfl, hT, rfl, q1, q2⟩ := hy
      have w1 := q1 us h1'
      have w2 := q2 vs' (SqL.of h2')
      rw [f1] at w1; cases w1
      rw [f3] at w2; cases w2
      exact ⟨Grow.laid hT, c'.laid hT, pair_da hT f2 f4⟩
    · rename_i ys μ2 e2
      cases e
      exact (ij_zip hm he he2 hg hs hs2 hpl).run pins s σ H R I ⟨φ, ρ, μ, _, _, _, rs, by unfold iZip; rw [e1]; dsimp only; rw [e2], k⟩
    · cases e
  · rename_i xs μ1 e1
    split at e
    · rename_i ys μ2 e2
      cases e
      exact (ij_zip hm he he2 hg hs hs2 hpl).run pins s σ H R I ⟨φ, ρ, μ, _, _, _, rs, by unfold iZip; rw [e1]; dsimp only; rw [e2], k⟩
    · cases e
  · cases e⟩

def tIZ (K : PySem.W.Frag) (fx fe : EF) : TI := fun σ H R => ∃ φ ρ μ n xs all μ0 μ', RS K φ σ H ρ μ ∧ fx ρ μ = some (.d (.tuple xs), μ0) ∧ fe ρ μ0 = some (.loc n, μ') ∧ μ'[n]? = some all ∧ ∀ φ' J H', Grow φ φ' H H' → Cells K φ' H' μ' → WkR K φ' H' n all (zipD xs all) J → R J H'
@[simp] noncomputable def sForZ (fx fe : EF) (t : TF) (body : SF) (ρ : Rho) (μ : Mu) : Option SR := match fx ρ μ with
  | some (.d (.tuple xs), μ0) => (match fe ρ μ0 with
    | some (.loc n, μ1) => (match μ1[n]? with
      | some all => forM t body (some n) all (zipD xs all) ρ μ1
      | none => none)
    | _ => none)
  | _ => none
theorem ij_zipC {X : Cx} {e e2 : Expr} {elts : List Expr} {kk : Nat} {f g : EF} {p pos tpos : Pos} (hm : X.mg "zip" = none) (he : PE X e (tE X.K f)) (he2 : PE X e2 (tE X.K g)) (hg : Gl X "zip" := by rfl)
    (hs : starEach [e, e2] X.env = (false, eval e X.env) :: starEach [e2] X.env := by rfl) (hs2 : starEach [e2] X.env = (false, eval e2 X.env) :: starEach [] X.env := by rfl) (hpl : (backTo pos (starEach [e2] X.env)).any (·.1) = false := by rfl) :
    PI X (.Tuple elts kk tpos) (.Call (.Name "zip" p) [e, e2] [] pos) (tIZ X.K f g) := ⟨fun pins s σ H R I ⟨φ, ρ, μ, n, xs, all, μ0, μ', rs, e9, e1, e0, k⟩ => by
  have ea : aCons f (aCons g aNil) ρ μ = some ([.d (.tuple xs), .loc n], μ') := by simp only [aCons, aNil, e9, e1]; rfl
  refine (pi_zipM hg hm (aj_cons he (aj_cons he2 aj_nil hs2) hs) hs hpl).run pins s σ H R I ⟨φ, ρ, μ, _, _, rs, ea, fun φ1 vs H1 g1 c1 r1 => ?_⟩
  obtain ⟨u, v, rfl, ⟨a, us, q1, h1, s1⟩, q2⟩ := rvs2 r1
  obtain ⟨b, hb1, hb2⟩ := id q2
  obtain ⟨vs, h2, s2⟩ := c1.at_ n b all hb1 e0
  subst q1 hb2
  refine ⟨min xs.length all.length, a, b, us, vs, rfl, h1, SqL.of h2, k φ1 _ H1 g1 c1 fun φ' H' μ2 g c' hsrc i => ?_⟩
  have h1' := g.sqT h1
  have s1' := DaAll.step g _ _ s1
  obtain ⟨b', hb', hb2'⟩ := RV.step g _ _ q2
  cases hb2'
  obtain ⟨vs', h2', s2'⟩ := c'.at_ n b all hb' hsrc
  have l1 := s1'.len
  have l2 := s2'.len
  refine ⟨fun d e => ?_, fun hl => ⟨us, vs', h1', SqL.of h2', by omega, by omega, by omega, by rw [zipD_len] at hl; exact hl⟩⟩
  have hlt : i < min xs.length all.length := by
    have := (List.getElem?_eq_some_iff.mp e).1
    rwa [zipD_len] at this
  obtain ⟨d1, d2, e4, e5, rfl⟩ := zipD_get e
  obtain ⟨z1, f1, f2⟩ := s1'.get e4
  obtain ⟨z2, f3, f4⟩ := s2'.get e5
  refine ⟨⟨us, vs', z1, z2, h1', SqL.of h2', f1, f3, hlt⟩, fun x H'' hy => ?_⟩
  obtain ⟨T, x1, x2, rfl, hT, rfl, q1, q2⟩ := hy
  have w1 := q1 us h1'
  have w2 := q2 vs' (SqL.of h2')
  rw [f1] at w1; cases w1
  rw [f3] at w2; cases w2
  exact ⟨Grow.laid hT, c'.laid hT, pair_da hT f2 f4⟩⟩
theorem sj_forZ {X : Cx} {tg iter : Expr} {body : List Stmt} {fx fe : EF} {t : TF} {vs : List Nat} {g : SF} {pos : Pos} (hp : PassesOwn (model X.prog X.w) X.A X.env X.xe) (hc : X.calm = true) (hi : PI X tg iter (tIZ X.K fx fe)) (hg : PG X tg (tG X.K t vs)) (hb : PSs X body (tS X.K g))
    (hs : ∀ x, foldedSetIterable iter X.env x = pure x := by intro _; rfl) : PS X (.For tg iter body [] pos) (tS X.K (sForZ fx fe t g)) := PS.to (ps_for hp hc hi hg hb hs) fun D σ H ⟨φ, ρ, μ, rs, k⟩ => by
  unfold sForZ at k
  split at k
  · rename_i xs μ0 e9
    split at k
    · rename_i n μ1 e1
      split at k
      · rename_i all e0
        refine ⟨φ, ρ, μ, n, xs, all, μ0, μ1, rs, e9, e1, e0, fun φ1 J H1 g1 c1 wk => ?_⟩
        generalize hds : zipD xs all = ds at *
        refine ⟨fun i m σ' H' => m = ds.length - i ∧ ∃ φ2 ρ2 μ2, Grow φ1 φ2 H1 H' ∧ RS X.K φ2 σ' H' ρ2 μ2 ∧ SPost X.K φ2 H' D (forM t g (some n) all (ds.drop i) ρ2 μ2), ⟨_, rfl, φ1, ρ, μ1, .refl _ _, rs.step g1 c1, SPost.grow g1 k⟩, ?_⟩
        rintro i m σ2 H2 ⟨rfl, φ2, ρ2, μ2, g2, rs2, k2⟩
        cases hdi : ds.drop i with
        | nil =>
          rw [hdi] at k2
          unfold forM at k2
          split at k2
          · rename_i hsrc
            have hl : ds.length ≤ i := List.drop_eq_nil_iff.mp hdi
            exact .inl ⟨(wk φ2 H2 μ2 g2 rs2.c (hsrc n rfl) i).2 hl, k2 φ2 σ2 H2 (.refl _ _) rs2⟩
          · exact k2.elim
        | cons d r =>
          rw [hdi] at k2
          have hil : i < ds.length := by
            by_cases z : i < ds.length
            · exact z
            · rw [List.drop_eq_nil_iff.mpr (by omega)] at hdi; cases hdi
          have hdg : ds[i]? = some d := by
            have := List.getElem?_drop (xs := ds) (i := i) (j := 0)
            rw [hdi] at this
            simpa using this.symm
          have hdr : ds.drop (i + 1) = r := by
            have : (ds.drop i).drop 1 = ds.drop (i + 1) := by rw [List.drop_drop]
            rw [← this, hdi]; rfl
          unfold forM at k2
          split at k2
          · rename_i hsrc
            obtain ⟨go, hy⟩ := (wk φ2 H2 μ2 g2 rs2.c (hsrc n rfl) i).1 d hdg
            refine .inr ⟨go, fun σ' H' => ∃ φ3 ρ3 μ3, Grow φ1 φ3 H1 H' ∧ RS X.K φ3 σ' H' ρ3 μ3 ∧ SPost X.K φ3 H' D (forM t g (some n) all (ds.drop (i + 1)) ρ3 μ3), fun σ' H' hN => ⟨ds.length - (i + 1), by omega, rfl, hN⟩, fun x H3 hyl => ?_⟩
            obtain ⟨g3, c3, hx⟩ := hy x H3 hyl
            have rs3 := rs2.step g3 c3
            split at k2
            · exact k2.elim
            · rename_i ρ3 e3
              refine ⟨φ2, ρ2, μ2, .d d, ρ3, rs3, hx, e3, fun σ4 rs4 _ => ⟨φ2, ρ3, μ2, rs4, ?_⟩⟩
              rw [hdr]
              have k3 := SPost.grow g3 k2
              cases eb : g ρ3 μ2 with
              | none => rw [eb] at k3; exact k3
              | some z =>
                rw [eb] at k3
                cases z with
                | nx ρ5 μ5 => exact fun φ5 σ5 H5 g5 r5 => ⟨φ5, ρ5, μ5, (g2.trans g3).trans g5, r5, SPost.grow g5 k3⟩
                | ct ρ5 μ5 => exact fun φ5 σ5 H5 g5 r5 => ⟨φ5, ρ5, μ5, (g2.trans g3).trans g5, r5, SPost.grow g5 k3⟩
                | bk ρ5 μ5 => exact k3
                | rt w μ5 => exact k3
          · exact k2.elim
      · exact k.elim
    · exact k.elim
  · exact k.elim
end VL
end
section
set_option Elab.async false
set_option linter.all false
set_option maxRecDepth 100000
/-! len(set(xs)) of a list of different tuples of ints -/
namespace VL
open PySem PySem.Spec PyProof.Rows L2
variable [LawTabs]
def toKs : List PyData → Option (List (List Int))
  | [] => some []
  | .tuple ds :: r => (match toI ds, toKs r with
    | some k, some ks => some (k :: ks)
    | _, _ => none)
  | _ => none
theorem ks_da {K : PySem.W.Frag} {A : List Addr} {H : Hp} : ∀ {ds : List PyData} {ks : List (List Int)} {xs : List V}, toKs ds = some ks → DaAll K A H ds xs →
    ∃ qs : List (Addr × List Int), xs = qs.map (fun p => V.ref p.1) ∧ qs.map (·.2) = ks ∧ ∀ p ∈ qs, SqT K H p.1 (p.2.map V.int)
  | [], ks, xs, e, h => by
    cases e
    cases h
    exact ⟨[], rfl, rfl, fun p hp => by cases hp⟩
  | .tuple ds :: r, ks, xs, e, h => by
    unfold toKs at e
    split at e
    · rename_i k ks' e1 e2
      cases e
      obtain ⟨x, ys, rfl, hx, hr⟩ := h
      obtain ⟨t, us, rfl, ht, hu⟩ := hx
      rw [toI_da e1 hu] at ht
      obtain ⟨qs, rfl, rfl, hq⟩ := ks_da e2 hr
      exact ⟨(t, k) :: qs, rfl, rfl, fun p hp => by
        rcases List.mem_cons.mp hp with rfl | hp
        · exact ht
        · exact hq p hp⟩
    · cases e
  | .none :: _, _, _, e, _ => by cases e
  | .bool _ :: _, _, _, e, _ => by cases e
  | .int _ :: _, _, _, e, _ => by cases e
  | .str _ :: _, _, _, e, _ => by cases e
  | .list _ :: _, _, _, e, _ => by cases e
  | .dict _ :: _, _, _, e, _ => by cases e
section
variable {X : Cx}
def rLenT (K : PySem.W.Frag) (P : Program) (w : World) : List V → Hp → VK → Prop := fun vs H Q => ∃ (a : Addr) (L : List (Addr × List Int)), vs = [V.ref a] ∧ H a = some (SetTO P w a L) ∧ (∀ p ∈ L, SqT K H p.1 (p.2.map V.int)) ∧ ((L.map (·.2)).Nodup → Q (.int L.length) H)
theorem cr_lenT (hc : X.calm = true) : CallR X (.builtin "len") (rLenT X.K X.prog X.w) := by
  intro pins s σ H vs us Q I r h
  obtain ⟨a, L, rfl, ha, hk, q⟩ := h
  have R0 : SetT0 X.prog X.w s.heap a L := (I.hok a _ ha).1
  obtain ⟨es, ep, t, R⟩ := R0.full fun p hp => I.isT (hk p hp)
  obtain ⟨o, ho, hex, hd⟩ := R.ob
  have hfew := R.few
  have hsz := R.size
  rw [Vals.ref1 r]
  exact call_len_set ho hex hd R.fits (by rw [hsz]; omega) ⟨.int L.length, H, I.tok _, ⟨_, by rw [hsz]⟩, q R.nd⟩
@[simp] def oLenT (_ : Mu) (ws : List Vw) : Option Vw := match ws with
  | [.d (.list ds)] => (match toKs ds with
    | some ks => if ks.Nodup ∧ ks.length < 64 then some (.d (.int ks.length)) else none
    | none => none)
  | _ => none
theorem same_len {α : Type} [DecidableEq α] {a b : List α} (ha : a.Nodup) (hb : b.Nodup) (h1 : ∀ x ∈ a, x ∈ b) (h2 : ∀ x ∈ b, x ∈ a) : a.length = b.length := by
  have p : a.Perm b := (List.perm_ext_iff_of_nodup ha hb).mpr fun x => ⟨h1 x, h2 x⟩
  exact p.length_eq
theorem ej_lenSetT {e : Expr} {f : EF} {p p2 pos pos2 : Pos} (hc : X.calm = true) (hu : X.A.units + 200 < cLine) (hm : X.mg "len" = none) (hm2 : X.mg "set" = none) (he : PE X e (tE X.K f)) (hg : Gl X "len" := by rfl) (hg2 : Gl X "set" := by rfl)
    (hs : starEach [.Call (.Name "set" p2) [e] [] pos2] X.env = (false, eval (.Call (.Name "set" p2) [e] [] pos2) X.env) :: starEach [] X.env := by rfl) (hs2 : starEach [e] X.env = (false, eval e X.env) :: starEach [] X.env := by rfl)
    (hp : (backTo pos (starEach [] X.env)).any (·.1) = false := by rfl) (hp2 : (backTo pos2 (starEach [] X.env)).any (·.1) = false := by rfl) :
    PE X (.Call (.Name "len" p) [.Call (.Name "set" p2) [e] [] pos2] [] pos) (tE X.K (eBi oLenT (aCons f aNil))) :=
  PE.to (pe_callB (cr_lenT hc) hg hm (by decide +kernel) (pa_cons (pe_callTy (cr_setOfT hc (by omega)) hg2 hm2 (by decide +kernel) (pa_cons he pa_nil hs2) (by decide) (by decide) hs2 hp2) pa_nil hs) (by decide) (by decide) hs hp) fun σ H Q ⟨φ, ρ, μ, w, μ', rs, e, k⟩ => by
    unfold eBi aCons aNil at e
    cases e1 : f ρ μ with
    | none => simp only [e1] at e; cases e
    | some z =>
      obtain ⟨x, μ1⟩ := z
      simp only [e1, Option.map_some] at e
      obtain ⟨y, e2, e3⟩ := Option.map_eq_some_iff.mp e
      cases e3
      unfold oLenT at e2
      split at e2
      · rename_i ds hw
        cases hw
        split at e2
        · rename_i ks e4
          split at e2
          · rename_i hl
            cases e2
            refine ⟨φ, ρ, μ, _, _, rs, e1, fun φ1 v1 H1 g1 c1 r1 => ?_⟩
            obtain ⟨a, xs, rfl, _, h1, h2⟩ := r1
            obtain ⟨qs, rfl, hks, hq⟩ := ks_da e4 h2
            have hln : qs.length = ks.length := by rw [← hks, List.length_map]
            refine ⟨a, qs, rfl, SqL.of h1, hq, by omega, fun b L hb s1 s2 => ⟨b, L, rfl, upd_same, fun p hp => (Grow.laid (φ := φ1) hb).sqT (hq p (s1 p hp)), fun nd => ?_⟩⟩
            have hlen : L.length = ks.length := by
              rw [← hks] at hl ⊢
              have := same_len nd hl.1 (fun x hx => by
                obtain ⟨p, hp, rfl⟩ := List.mem_map.mp hx
                exact List.mem_map.mpr ⟨p, s1 p hp, rfl⟩) (fun x hx => by
                obtain ⟨p, hp, rfl⟩ := List.mem_map.mp hx
                exact s2 p hp)
              simpa using this
            rw [hlen]
            exact k φ1 _ _ (g1.trans (Grow.laid hb)) (c1.laid hb) rfl
          · cases e2
        · cases e2
      · cases e2
end
end VL
end
section
set_option Elab.async false
set_option linter.all false
set_option maxRecDepth 100000
set_option maxHeartbeats 3200000
/-! sorted(set(xs)), xs a list of whole numbers -/
namespace VL
open PySem PySem.Spec PyProof.Rows L2 VL
section
variable {P : Program} {w : World} {A : Around} {E : Value → Shared → Prop} {s : Shared}
abbrev eSet (w : World) : Obj := { cls := .type "set", dict := none, data := .set #[] 0 (.fresh 0 0 (!w.params.followText "set-order")) }
abbrev OutS (w : World) (s : Shared) (ns : List Int) (s2 : Shared) : Prop := ∃ h' tk c, s2 = { s with heap := h', toks := tk } ∧ SetR w h' s.heap.objs.size (fun j => decide (j ∈ ns)) c ∧ c ≤ ns.length ∧ ∀ b o, s.heap.get? b = some o → h'.get? b = some o
theorem call_setL {l : Addr} {xs : Array Value} {ns : List Int} {Q : Value → Shared → Prop} (hh : A.handled = none) (hl : s.heap.IsList l xs) (hi : IntsAre xs.toList ns) (hb : ns.length + 1 < scanBound)
    (k : ∀ s2, OutS w s ns s2 → Q (.ref s.heap.objs.size) s2) : wpAny (model P w) A (call (.type "set") [.ref l]) Q E s := by
  have hsz : xs.size = ns.length := by have q := IntsAre.length hi; rwa [Array.length_toList] at q
  obtain ⟨_, _, hmro⟩ := F.called_set.mro
  have made := F.called_set.made; have subs := F.called_set.sub
  refine wpAny_call (codeAny_of_tree (wpAny_pure ⟨Code.quiet_builtin _ (by decide +kernel), codeAny_builtin F.entry_type_call ?_⟩))
  rw [Around.under_plain (weight_type_call_type "set" [.ref l] []) rfl]
  have g1 := F.called_set.notType; have g2 := F.called_set.canCreate; have g3 := F.typeCall_set_1 (.ref l)
  repeat (any_goals (first | assumption | wp_step))
  refine codeAny_mono (code_set_led1 (.ref l) (E := E) (Q₁ := fun v s2 => v = .ref s.heap.objs.size ∧ s2 = { s with heap := s.heap.push (eSet w) }) ⟨rfl, rfl⟩) fun r s2 hr => ?_
  match r, hr with
  | .error _, hr => exact hr
  | .ok (.ret v), hr =>
    obtain ⟨rfl, rfl⟩ := hr
    have at0 : (s.heap.push (eSet w)).get? s.heap.objs.size = some (eSet w) := Heap.get?_push_size _ rfl
    have ty0 : Shared.TypeIs { s with heap := s.heap.push (eSet w) } (.ref s.heap.objs.size) "set" := ⟨_, at0, rfl⟩
    have b1 := F.called_set.init.lookup; have b2 := F.called_set.init.bind (.ref s.heap.objs.size)
    repeat (any_goals (first | assumption | wp_step))
    refine codeAny_mono (codeAny_call_builtin (R := wants (fun r s2 => r = .none ∧ OutS w s ns s2) E) F.called_set.init.plain F.entry_set_init (check_set_init_1 ty0 ?_)) fun r s2 hr2 => ?_
    · obtain ⟨⟨oc, od, odt, os⟩, hol, hcl, nl, hdl⟩ := hl
      simp only at hcl hdl
      subst hcl hdl
      have hll : l < s.heap.objs.size := Heap.lt_size hol
      have old : (s.heap.push (eSet w)).get? l = some { cls := .type "list", dict := od, data := .seq xs nl, slots := os } := Heap.get?_push_of_some _ hol
      have n1 := F.sub_list_set; have n2 := F.sub_list_frozenset
      have n3 : (Value.type "list" == Value.type "dict") = false := by decide
      have hl1 : (s.heap.push (eSet w)).IsList l xs := ⟨_, old, rfl, nl, rfl⟩
      unfold Builtin.«set.__init__» noKeywords Builtin.Frozenset.updateFrom
      generalize hPI : pyIter = PI
      wp_walk
      subst hPI
      refine wpAny_pyIter_list hl1 (wpAny_bind (wpAny_runValue ?_))
      have hd3 : A.in1.in1.in1.handled = none := by simp [hh]
      have z1 : (s.heap.push (eSet w)).objs.size = s.heap.objs.size + 1 := Heap.size_push ..
      have d1 : l ≠ (s.heap.push (eSet w)).objs.size := by rw [Heap.size_push]; exact Nat.ne_of_lt (Nat.lt_succ_of_lt hll)
      have d2 : s.heap.objs.size ∉ [(s.heap.push (eSet w)).objs.size, l] := by
        intro q
        simp only [List.mem_cons, List.not_mem_nil, or_false] at q
        rcases q with q | q
        · rw [Heap.size_push] at q; exact absurd q (Nat.ne_of_lt (Nat.lt_succ_self _))
        · exact absurd q (Nat.ne_of_gt hll)
      refine set_update_ints ((Walks.list hd3 _ l d1 xs).toS) s.heap.objs.size d2 ns hsz hb (fun i v hv => ?_) (xs.size - 0) 0 _ (by omega) (Nat.zero_le _) ⟨⟨_, Heap.get?_push_size _ rfl, rfl, rfl⟩, hl1.push _⟩ ?_ fun s3 c hm hc hS => ?_
      · have il : i < ns.length := by rw [← hsz]; exact (Array.getElem?_eq_some_iff.mp hv).1
        obtain ⟨t, e⟩ := IntsAre.int_at hi i v (by rw [Array.getElem?_toList]; exact hv)
        exact ⟨ns[i], t, List.getElem?_eq_getElem il, by rw [e, List.getD_eq_getElem?_getD, List.getElem?_eq_getElem il] <;> rfl⟩
      · exact ⟨0, Nat.le_refl 0, setR_new_at (Heap.get?_push_of_some _ at0)⟩
      · obtain ⟨h', gg, dd, tk, oo⟩ := s3
        obtain rfl : gg = s.gens := hm.gens
        obtain rfl : dd = s.drawn := hm.drawn
        obtain rfl : oo = s.os := hm.os
        refine wpAny_pure (wpAny_pure ⟨rfl, h', tk, c, rfl, hS, by omega, fun b o e => ?_⟩)
        have hbl : b < s.heap.objs.size := Heap.lt_size e
        refine hm.heap b o (fun q => ?_) (Heap.get?_push_of_some _ (Heap.get?_push_of_some _ e))
        simp only [List.mem_cons, List.not_mem_nil, or_false] at q
        rcases q with q | q
        · exact absurd q (Nat.ne_of_lt hbl)
        · rw [Heap.size_push] at q; exact absurd q (Nat.ne_of_lt (Nat.lt_succ_of_lt hbl))
    · match r, hr2 with
      | .error _, hr2 => exact hr2
      | .ok (.ret v), hr2 =>
        obtain ⟨rfl, h', tk, c, rfl, r3⟩ := hr2
        repeat (any_goals (first | assumption | wp_step))
        exact k _ ⟨h', tk, c, rfl, r3⟩
end
variable [LawTabs]
def rSetLI (K : PySem.W.Frag) (w : World) : List V → Hp → VK → Prop := fun vs H Q => ∃ (p : Addr) (ns : List Int), vs = [.ref p] ∧ SqL K H p (ns.map V.int) ∧ ns.length ≤ 60 ∧ ∀ a c, H a = none → c ≤ ns.length → Q (.ref a) (upd H a (SetO w a (fun j => decide (j ∈ ns)) c))
theorem cr_setLI {X : Cx} (hc : X.calm = true) : CallR X (.type "set") (rSetLI X.K X.w) := by
  intro pins s σ H vs us Q I r h
  obtain ⟨p, ns, rfl, hs, hl, q⟩ := h
  obtain ⟨its, rv, pt, hz⟩ := I.list hs
  rw [Vals.ref1 r]
  have hi : IntsAre its.toArray.toList ns := ints_of_vals rv
  refine call_setL (I.ok.hd hc) pt.isList hi (by unfold scanBound; omega) fun s2 ⟨h', tk, c, e, R, hcn, kk⟩ => ?_
  subst e
  exact ⟨.ref _, upd H s.heap.objs.size (SetO X.w s.heap.objs.size (fun j => decide (j ∈ ns)) c), I.laid (t' := tk) kk (Nat.le_refl _) (setO_new R), rfl, q _ c (I.hok.fresh (Nat.le_refl _)) hcn⟩
@[simp] def oSSetL (μ : Mu) (ws : List Vw) : Option Vw := match ws with
  | [w] => (match (toL μ w).bind toI with
    | some ns => if ns.length ≤ 60 then some (.d (.list ((usrt ns).map PyData.int))) else none
    | none => none)
  | _ => none
theorem ej_ssetL {X : Cx} {e : Expr} {f : EF} {p p2 pos pos2 : Pos} (hc : X.calm = true) (hm : X.mg "sorted" = none) (hm2 : X.mg "set" = none) (he : PE X e (tE X.K f)) (hg : Gl X "sorted" := by rfl) (hg2 : Gl X "set" := by rfl)
    (hs : starEach [.Call (.Name "set" p2) [e] [] pos2] X.env = (false, eval (.Call (.Name "set" p2) [e] [] pos2) X.env) :: starEach [] X.env := by rfl) (hs2 : starEach [e] X.env = (false, eval e X.env) :: starEach [] X.env := by rfl)
    (hp : (backTo pos (starEach [] X.env)).any (·.1) = false := by rfl) (hp2 : (backTo pos2 (starEach [] X.env)).any (·.1) = false := by rfl) :
    PE X (.Call (.Name "sorted" p) [.Call (.Name "set" p2) [e] [] pos2] [] pos) (tE X.K (eBi oSSetL (aCons f aNil))) :=
  PE.to (pe_callB (cr_sortedSet hc) hg hm (by decide +kernel) (pa_cons (pe_callTy (cr_setLI hc) hg2 hm2 (by decide +kernel) (pa_cons he pa_nil hs2) (by decide) (by decide) hs2 hp2) pa_nil hs) (by decide) (by decide) hs hp) fun σ H Q ⟨φ, ρ, μ, w, μ', rs, e, k⟩ => by
    unfold eBi aCons aNil at e
    cases e1 : f ρ μ with
    | none => simp only [e1] at e; cases e
    | some z =>
      obtain ⟨x, μ1⟩ := z
      simp only [e1, Option.map_some] at e
      obtain ⟨y, e2, e3⟩ := Option.map_eq_some_iff.mp e
      cases e3
      unfold oSSetL at e2
      dsimp only at e2
      cases e4 : (toL μ' x).bind toI with
      | none => rw [e4] at e2; cases e2
      | some ns =>
        rw [e4] at e2
        dsimp only at e2
        by_cases hl : ns.length ≤ 60
        · rw [if_pos hl] at e2
          cases e2
          · refine ⟨φ, ρ, μ, _, _, rs, e1, fun φ1 v1 H1 g1 c1 r1 => ?_⟩
            obtain ⟨ds, e5, e6⟩ := Option.bind_eq_some_iff.mp e4
            obtain ⟨a, xs, rfl, h1, h2⟩ := toL_ok c1 r1 e5
            rw [toI_da e6 h2] at h1
            refine ⟨a, ns, rfl, h1, hl, fun b c hb hcn => ⟨b, _, c, rfl, upd_same, by omega, fun ms q hs hm _ hq => ?_⟩⟩
            rw [usrt_eq (fun k => (hm k).trans (by rw [decide_eq_true_eq])) hs]
            exact new_lst (c1.laid hb) (DaAll.ints (usrt ns)) (fun φ4 v4 H4 g4 c4 r4 => k φ4 v4 H4 ((g1.trans (Grow.laid hb)).trans g4) c4 r4) q hq
        · rw [if_neg hl] at e2; cases e2
end VL
end
section
set_option Elab.async false
set_option linter.all false
set_option maxRecDepth 100000
namespace MR
open PySem PySem.Spec PyProof.Rows L2 VL
instance : LawTabs := ⟨fun _ => []⟩
/-! the mirror of the text, made by a program -/
noncomputable def b__law_dice : SF := (sSeq (sAsg (eIf (bE (eB2 oLt (eV 1) (eBi oLen (aCons (eV 0) aNil)))) (eBi oInt (aCons (eB2 oIx (eV 0) (eV 1)) aNil)) (eB2 oAdd (eB2 oMul (eC (.int 71)) (eV 1)) (eC (.int 43)))) (tNm 2))
  (sSeq (sAsg (eB2 oMod (eBi oMax2 (aCons (eC (.int 0)) (aCons (eB2 oSub (eBi oAbs (aCons (eV 2) aNil)) (eB2 oPow (eC (.int 10)) (eC (.int 16)))) aNil))) (eB2 oMul (eB2 oPow (eC (.int 10)) (eC (.int 57))) (eB2 oPow (eC (.int 10)) (eC (.int 59))))) (tNm 3))
  (sRet (eLstC (aCons (eV 3) (aCons (eB2 oAdd (eB2 oAdd (eB2 oAdd (eB2 oMul (eB2 oMod (eBi oAbs (aCons (eV 2) aNil)) (eC (.int 1152921504606846869))) (eC (.int 89))) (eB2 oMul (eC (.int 1021)) (eV 1))) (eB2 oMul (eC (.int 47)) (eBi oInt (aCons (eB2 oLt (eV 2) (eC (.int 0))) aNil)))) (eC (.int 31))) (aCons (eC (.int 0)) aNil)))))))
noncomputable def m__law_dice : FM := fnM true 4 b__law_dice
noncomputable def b_is_row : SF := (sRet (eAnd (eIsi "tuple" (eV 1)) (eB2 (oEq false) (eBi oLen (aCons (eV 1) aNil)) (eV 0))))
noncomputable def m_is_row : FM := fnM false 2 b_is_row
noncomputable def b_is_some_row : SF := (sRet (eAnd (eIsi "tuple" (eV 0)) (eChain oLe oLe (eC (.int 1)) (eBi oLen (aCons (eV 0) aNil)) (eC (.int 3)))))
noncomputable def m_is_some_row : FM := fnM false 1 b_is_some_row
noncomputable def b_is_number : SF := (sRet (eAnd (eIsi "int" (eV 0)) (eAnd (eNotT (eIsi "bool" (eV 0))) (eChain oLe oLe (eB1 oNeg (eC (.int 999999999999999999999999999999999999999999999999999999999999))) (eV 0) (eC (.int 999999999999999999999999999999999999999999999999999999999999))))))
noncomputable def m_is_number : FM := fnM false 1 b_is_number
noncomputable def b_is_from_to : SF := (sRet (eAnd (eCall 1 m_is_number (aCons (eV 0) aNil)) (eChain oLe oLe (eV 1) (eV 0) (eV 2))))
noncomputable def m_is_from_to : FM := fnM false 3 b_is_from_to
noncomputable def q1_are_numbers : EF := (eCall 3 m_is_from_to (aCons (eV 4) (aCons (eV 1) (aCons (eV 2) aNil))))
noncomputable def b_are_numbers : SF := (sRet (eAnd (eCall 2 m_is_row (aCons (eV 0) (aCons (eV 3) aNil))) (eBi oAll (aCons (eLc (iSeq (eV 3)) (tNm 4) bYes q1_are_numbers [4]) aNil))))
noncomputable def m_are_numbers : FM := fnM false 5 b_are_numbers
noncomputable def w1_is_ascending : SF := (sSeq (sIf (bOr (bNot (bTru (eIsi "int" (eV 3)))) (bOr (bTru (eIsi "bool" (eV 3))) (bNot (bE (eChain oLt oLt (eV 2) (eV 3) (eV 0)))))) (sRet (eC (.bool false))) sNx)
  (sAsg (eV 3) (tNm 2)))
noncomputable def b_is_ascending : SF := (sSeq (sIf (bNot (bTru (eIsi "tuple" (eV 1)))) (sRet (eC (.bool false))) sNx)
  (sSeq (sAsg (eB1 oNeg (eC (.int 1))) (tNm 2))
  (sSeq (sFor (iSeq (eV 1)) (tNm 3) w1_is_ascending)
  (sRet (eC (.bool true))))))
noncomputable def m_is_ascending : FM := fnM false 4 b_is_ascending
noncomputable def q1_has_class_form : EF := (eCall 2 m_is_ascending (aCons (eV 0) (aCons (eV 4) aNil)))
noncomputable def q2_has_class_form : EF := (eV 5)
noncomputable def q3_has_class_form : EF := (eB2 oLt (eB2 oIx (eV 2) (eV 5)) (eC (.int 4)))
noncomputable def b_has_class_form : SF := (sSeq (sIf (bOr (bNot (bTru (eCall 2 m_is_row (aCons (eC (.int 2)) (aCons (eV 1) aNil))))) (bNot (bTru (eCall 4 m_are_numbers (aCons (eV 0) (aCons (eC (.int 0)) (aCons (eC (.int 4)) (aCons (eB2 oIx (eV 1) (eC (.int 0))) aNil)))))))) (sRet (eC (.bool false))) sNx)
  (sSeq (sAsg (eV 1) (tTp (lCons (tNm 2) (lCons (tNm 3) lNil))))
  (sSeq (sIf (bOr (bNot (bTru (eIsi "tuple" (eV 3)))) (bOr (bNot (bTru (eV 3))) (bNot (bTru (eBi oAll (aCons (eLc (iSeq (eV 3)) (tNm 4) bYes q1_has_class_form [4]) aNil)))))) (sRet (eC (.bool false))) sNx)
  (sSeq (sIf (bOr (bE (eB2 (oIn false) (eTup aNil) (eSl (eV 3) (oYes (eC (.int 1))) oNo))) (bE (eB2 (oEq true) (eBi oSortedIT (aCons (eLc2 (iSeq (eV 3)) (tNm 4) bYes (iSeq (eV 4)) (tNm 5) bYes q2_has_class_form [4, 5] [5]) aNil)) (eLstRg (eV 0))))) (sRet (eC (.bool false))) sNx)
  (sRet (eBi oAll (aCons (eLc2 (iSeq (eSl (eV 3) (oYes (eC (.int 1))) oNo)) (tNm 4) bYes (iSeq (eV 4)) (tNm 5) bYes q3_has_class_form [4, 5] [5]) aNil)))))))
noncomputable def m_has_class_form : FM := fnM false 6 b_has_class_form
noncomputable def b_check_class : SF := (sIf (bOr (bNot (bTru (eCall 2 m_is_row (aCons (eC (.int 2)) (aCons (eV 0) aNil))))) (bOr (bNot (bTru (eCall 1 m_is_some_row (aCons (eB2 oIx (eV 0) (eC (.int 0))) aNil)))) (bNot (bTru (eCall 2 m_has_class_form (aCons (eBi oLen (aCons (eB2 oIx (eV 0) (eC (.int 0))) aNil)) (aCons (eV 0) aNil))))))) sNever sNx)
noncomputable def m_check_class : FM := fnM false 1 b_check_class
noncomputable def q1_raised : EF := (eIf (bE (eB2 (oIn false) (eV 2) (eV 1))) (eB2 oAdd (eB2 oIx (eV 0) (eV 2)) (eC (.int 1))) (eB2 oIx (eV 0) (eV 2)))
noncomputable def b_raised : SF := (sRet (eBi oTupleOf (aCons (eLc (iRg1 (eBi oLen (aCons (eV 0) aNil))) (tNm 2) bYes q1_raised [2]) aNil)))
noncomputable def m_raised : FM := fnM false 3 b_raised
noncomputable def w1_corners_of : SF := (sApp (eV 3) (eCall 2 m_raised (aCons (eB2 oIx (eV 3) (eB1 oNeg (eC (.int 1)))) (aCons (eV 4) aNil))))
noncomputable def b_corners_of : SF := (sSeq (sAsg (eV 0) (tTp (lCons (tNm 1) (lCons (tNm 2) lNil))))
  (sSeq (sAsg (eLstC (aCons (eV 1) aNil)) (tNm 3))
  (sSeq (sFor (iRev (eSl (eV 2) (oYes (eC (.int 1))) oNo)) (tNm 4) w1_corners_of)
  (sRet (eBi oTupleOf (aCons (eV 3) aNil))))))
noncomputable def m_corners_of : FM := fnM false 5 b_corners_of
noncomputable def b_corners : SF := (sSeq (sDrop (eCall 1 m_check_class (aCons (eV 0) aNil)))
  (sRet (eCall 1 m_corners_of (aCons (eV 0) aNil))))
noncomputable def m_corners : FM := fnM false 1 b_corners
noncomputable def b_is_fraction : SF := (sSeq (sIf (bOr (bNot (bTru (eCall 2 m_is_row (aCons (eC (.int 2)) (aCons (eV 0) aNil))))) (bOr (bNot (bTru (eCall 1 m_is_number (aCons (eB2 oIx (eV 0) (eC (.int 0))) aNil)))) (bNot (bTru (eCall 1 m_is_number (aCons (eB2 oIx (eV 0) (eC (.int 1))) aNil)))))) (sRet (eC (.bool false))) sNx)
  (sRet (eAnd (eB2 oGt (eB2 oIx (eV 0) (eC (.int 1))) (eC (.int 0))) (eB2 (oEq false) (eBi oGcd (aCons (eB2 oIx (eV 0) (eC (.int 0))) (aCons (eB2 oIx (eV 0) (eC (.int 1))) aNil))) (eC (.int 1))))))
noncomputable def m_is_fraction : FM := fnM false 1 b_is_fraction
noncomputable def b_is_from_zero : SF := (sRet (eAnd (eCall 1 m_is_fraction (aCons (eV 0) aNil)) (eB2 oGe (eB2 oIx (eV 0) (eC (.int 0))) (eC (.int 0)))))
noncomputable def m_is_from_zero : FM := fnM false 1 b_is_from_zero
noncomputable def q1_check_readings : EF := (eCall 1 m_is_from_zero (aCons (eV 2) aNil))
noncomputable def b_check_readings : SF := (sIf (bOr (bNot (bTru (eCall 2 m_is_row (aCons (eV 0) (aCons (eV 1) aNil))))) (bNot (bTru (eBi oAll (aCons (eLc (iSeq (eV 1)) (tNm 2) bYes q1_check_readings [2]) aNil))))) sNever sNx)
noncomputable def m_check_readings : FM := fnM false 3 b_check_readings
noncomputable def b_reduced : SF := (sSeq (sAsg (eBi oGcd (aCons (eV 0) (aCons (eV 1) aNil))) (tNm 2))
  (sSeq (sIf (bE (eB2 oLt (eV 1) (eC (.int 0)))) (sAsg (eB1 oNeg (eV 2)) (tNm 2)) sNx)
  (sRet (eTup (aCons (eB2 oDiv (eV 0) (eV 2)) (aCons (eB2 oDiv (eV 1) (eV 2)) aNil))))))
noncomputable def m_reduced : FM := fnM false 3 b_reduced
noncomputable def b_difference_of : SF := (sRet (eCall 2 m_reduced (aCons (eB2 oSub (eB2 oMul (eB2 oIx (eV 0) (eC (.int 0))) (eB2 oIx (eV 1) (eC (.int 1)))) (eB2 oMul (eB2 oIx (eV 1) (eC (.int 0))) (eB2 oIx (eV 0) (eC (.int 1))))) (aCons (eB2 oMul (eB2 oIx (eV 0) (eC (.int 1))) (eB2 oIx (eV 1) (eC (.int 1)))) aNil))))
noncomputable def m_difference_of : FM := fnM false 2 b_difference_of
noncomputable def q1_rises : EF := (eCall 2 m_difference_of (aCons (eV 3) (aCons (eV 2) aNil)))
noncomputable def b_rises : SF := (sSeq (sAsg (eB2 oAdd (eB2 oAdd (eLst (aCons (eC (.tuple [(.int 0), (.int 1)])) aNil)) (eV 0)) (eLst (aCons (eC (.tuple [(.int 1), (.int 1)])) aNil))) (tNm 1))
  (sRet (eLc (iZipM (eV 1) (eSl (eV 1) (oYes (eC (.int 1))) oNo)) (tTp (lCons (tNm 2) (lCons (tNm 3) lNil))) bYes q1_rises [2, 3])))
noncomputable def m_rises : FM := fnM false 4 b_rises
noncomputable def q1_rests_by : EF := (eCall 2 m_difference_of (aCons (eV 6) (aCons (eTup (aCons (eV 7) (aCons (eC (.int 1)) aNil))) aNil)))
noncomputable def q2_rests_by : EF := (eB2 (oEq true) (eB2 oIx (eV 4) (eV 8)) (eC (.tuple [(.int 0), (.int 1)])))
noncomputable def q3_rests_by : EF := (eB2 oIx (eV 4) (eB2 oIx (eV 9) (eC (.int 0))))
noncomputable def q4_rests_by : EF := (eB2 (oEq true) (eB2 oIx (eV 4) (eV 8)) (eV 10))
noncomputable def q5_rests_by : EF := (eB2 oLt (eB2 oIx (eV 11) (eC (.int 0))) (eC (.int 0)))
noncomputable def b_rests_by : SF := (sSeq (sAsg (eV 0) (tTp (lCons (tNm 2) (lCons (tNm 3) lNil))))
  (sSeq (sAsg (eLc (iZipM (eV 1) (eV 2)) (tTp (lCons (tNm 6) (lCons (tNm 7) lNil))) bYes q1_rests_by [6, 7]) (tNm 4))
  (sSeq (sIf (bTru (eBi oAny (aCons (eLc (iSeq (eB2 oIx (eV 3) (eC (.int 0)))) (tNm 8) bYes q2_rests_by [8]) aNil))) (sRet (eC .none)) sNx)
  (sSeq (sAsg (eLc (iSeq (eSl (eV 3) (oYes (eC (.int 1))) oNo)) (tNm 9) bYes q3_rests_by [9]) (tNm 5))
  (sSeq (sIf (bTru (eBi oAny (aCons (eLc2 (iZipM (eSl (eV 3) (oYes (eC (.int 1))) oNo) (eV 5)) (tTp (lCons (tNm 9) (lCons (tNm 10) lNil))) bYes (iSeq (eV 9)) (tNm 8) bYes q4_rests_by [9, 10, 8] [8]) aNil))) (sRet (eC .none)) sNx)
  (sSeq (sIf (bTru (eBi oAny (aCons (eLc (iSeq (eCall 1 m_rises (aCons (eV 5) aNil))) (tNm 11) bYes q5_rests_by [11]) aNil))) (sRet (eC .none)) sNx)
  (sRet (eV 5))))))))
noncomputable def m_rests_by : FM := fnM false 12 b_rests_by
noncomputable def b_parts : SF := (sSeq (sDrop (eCall 1 m_check_class (aCons (eV 0) aNil)))
  (sSeq (sDrop (eCall 2 m_check_readings (aCons (eBi oLen (aCons (eB2 oIx (eV 0) (eC (.int 0))) aNil)) (aCons (eV 1) aNil))))
  (sSeq (sAsg (eCall 2 m_rests_by (aCons (eV 0) (aCons (eV 1) aNil))) (tNm 2))
  (sSeq (sIf (bE (eB2 (oIs false) (eV 2) (eC .none))) (sRet (eC .none)) sNx)
  (sRet (eBi oTupleOf (aCons (eB1 oRevS (eCall 1 m_rises (aCons (eV 2) aNil))) aNil)))))))
noncomputable def m_parts : FM := fnM false 3 b_parts
noncomputable def b_sum_of : SF := (sRet (eCall 2 m_reduced (aCons (eB2 oAdd (eB2 oMul (eB2 oIx (eV 0) (eC (.int 0))) (eB2 oIx (eV 1) (eC (.int 1)))) (eB2 oMul (eB2 oIx (eV 1) (eC (.int 0))) (eB2 oIx (eV 0) (eC (.int 1))))) (aCons (eB2 oMul (eB2 oIx (eV 0) (eC (.int 1))) (eB2 oIx (eV 1) (eC (.int 1)))) aNil))))
noncomputable def m_sum_of : FM := fnM false 2 b_sum_of
noncomputable def w1_total_of : SF := (sAsg (eCall 2 m_sum_of (aCons (eV 1) (aCons (eV 2) aNil))) (tNm 1))
noncomputable def b_total_of : SF := (sSeq (sAsg (eC (.tuple [(.int 0), (.int 1)])) (tNm 1))
  (sSeq (sFor (iSeq (eV 0)) (tNm 2) w1_total_of)
  (sRet (eV 1))))
noncomputable def m_total_of : FM := fnM false 3 b_total_of
noncomputable def q1_are_fractions : EF := (eCall 1 m_is_fraction (aCons (eV 1) aNil))
noncomputable def b_are_fractions : SF := (sRet (eAnd (eIsi "tuple" (eV 0)) (eBi oAll (aCons (eLc (iSeq (eV 0)) (tNm 1) bYes q1_are_fractions [1]) aNil))))
noncomputable def m_are_fractions : FM := fnM false 2 b_are_fractions
noncomputable def q1_are_weights : EF := (eB2 oLt (eB2 oIx (eV 1) (eC (.int 0))) (eC (.int 0)))
noncomputable def b_are_weights : SF := (sSeq (sIf (bOr (bNot (bTru (eCall 1 m_are_fractions (aCons (eV 0) aNil)))) (bTru (eBi oAny (aCons (eLc (iSeq (eV 0)) (tNm 1) bYes q1_are_weights [1]) aNil)))) (sRet (eC (.bool false))) sNx)
  (sRet (eB2 (oEq false) (eCall 1 m_total_of (aCons (eV 0) aNil)) (eC (.tuple [(.int 1), (.int 1)])))))
noncomputable def m_are_weights : FM := fnM false 2 b_are_weights
noncomputable def b_check_weights : SF := (sIf (bOr (bNot (bTru (eCall 1 m_are_weights (aCons (eV 1) aNil)))) (bE (eB2 (oEq true) (eBi oLen (aCons (eV 1) aNil)) (eBi oLen (aCons (eB2 oIx (eV 0) (eC (.int 1))) aNil))))) sNever sNx)
noncomputable def m_check_weights : FM := fnM false 2 b_check_weights
noncomputable def q1_readings_at : EF := (eTup (aCons (eV 8) (aCons (eC (.int 1)) aNil)))
noncomputable def w2_readings_at : SF := (sSubS (eCall 2 m_sum_of (aCons (eB2 oIx (eV 4) (eV 7)) (aCons (eV 6) aNil))) (eV 4) (eV 7))
noncomputable def w3_readings_at : SF := (sFor (iSeq (eV 5)) (tNm 7) w2_readings_at)
noncomputable def b_readings_at : SF := (sSeq (sAsg (eV 0) (tTp (lCons (tNm 2) (lCons (tNm 3) lNil))))
  (sSeq (sAsg (eLcC (iSeq (eV 2)) (tNm 8) bYes q1_readings_at [8]) (tNm 4))
  (sSeq (sForZ (eSl (eV 3) (oYes (eC (.int 1))) oNo) (eV 1) (tTp (lCons (tNm 5) (lCons (tNm 6) lNil))) w3_readings_at)
  (sRet (eBi oTupleOf (aCons (eV 4) aNil))))))
noncomputable def m_readings_at : FM := fnM false 9 b_readings_at
noncomputable def w1_point : SF := (sApp (eV 2) (eCall 2 m_sum_of (aCons (eB2 oIx (eV 2) (eB1 oNeg (eC (.int 1)))) (aCons (eV 3) aNil))))
noncomputable def b_point : SF := (sSeq (sDrop (eCall 1 m_check_class (aCons (eV 0) aNil)))
  (sSeq (sDrop (eCall 2 m_check_weights (aCons (eV 0) (aCons (eV 1) aNil))))
  (sSeq (sAsg (eLstC (aCons (eB2 oIx (eV 1) (eB1 oNeg (eC (.int 1)))) aNil)) (tNm 2))
  (sSeq (sFor (iRev (eSl (eV 1) (oYes (eC (.int 1))) (oYes (eB1 oNeg (eC (.int 1)))))) (tNm 3) w1_point)
  (sRet (eCall 2 m_readings_at (aCons (eV 0) (aCons (eV 2) aNil))))))))
noncomputable def m_point : FM := fnM false 4 b_point
noncomputable def b__law_roll : SF := (sSeq (sIf (bE (eB2 oGt (eB2 oIx (eV 0) (eC (.int 0))) (eC (.int 0)))) (sSeq (sAsg (eB2 oMod (eBi oInt (aCons (eB2 oIx (eV 0) (eC (.int 0))) aNil)) (eV 1)) (tNm 2))
  (sSeq (sSubS (eB2 oDiv (eB2 oIx (eV 0) (eC (.int 0))) (eV 1)) (eV 0) (eC (.int 0)))
  (sRet (eV 2)))) sNx)
  (sSeq (sSubS (eB2 oAdd (eB2 oIx (eV 0) (eC (.int 2))) (eC (.int 1))) (eV 0) (eC (.int 2)))
  (sSeq (sAsg (eB2 oMod (eBi oInt (aCons (eB2 oAdd (eB2 oIx (eV 0) (eC (.int 1))) (eB2 oMul (eC (.int 71828177)) (eB2 oIx (eV 0) (eC (.int 2))))) aNil)) (eC (.int 2305843009213693421))) (tNm 3))
  (sSeq (sAsg (eB2 oAdd (eB2 oMul (eB2 oMod (eBi oInt (aCons (eB2 oAdd (eB2 oMul (eV 3) (eV 3)) (eB2 oMul (eC (.int 89)) (eB2 oIx (eV 0) (eC (.int 2))))) aNil)) (eC (.int 2305843009213693381))) (eC (.int 8128163))) (eV 3)) (tNm 4))
  (sRet (eB2 oMod (eBi oInt (aCons (eB2 oDiv (eV 4) (eC (.int 65579))) aNil)) (eV 1)))))))
noncomputable def m__law_roll : FM := fnM false 5 b__law_roll
noncomputable def b__law_pick : SF := (sRet (eB2 oIx (eV 1) (eCall 2 m__law_roll (aCons (eV 0) (aCons (eBi oLen (aCons (eV 1) aNil)) aNil)))))
noncomputable def m__law_pick : FM := fnM false 2 b__law_pick
noncomputable def q1__law_co_class : EF := (eCall 2 m__law_pick (aCons (eV 0) (aCons (eLst (aCons (eC (.int 0)) (aCons (eC (.int 0)) (aCons (eC (.int 1)) (aCons (eC (.int 2)) (aCons (eC (.int 3)) (aCons (eC (.int 4)) (aCons (eCall 2 m__law_roll (aCons (eV 0) (aCons (eC (.int 5)) aNil))) aNil)))))))) aNil)))
noncomputable def q2__law_co_class : EF := (eIf (bE (eB2 (oEq false) (eV 7) (eC (.int 4)))) (eC (.int 0)) (eCall 2 m__law_roll (aCons (eV 0) (aCons (eB2 oAdd (eV 1) (eC (.int 1))) aNil))))
noncomputable def r3__law_co_class : BF := (bE (eB2 (oEq false) (eB2 oIx (eV 3) (eV 6)) (eC (.int 0))))
noncomputable def q4__law_co_class : EF := (eV 6)
noncomputable def r5__law_co_class : BF := (bE (eB2 (oEq false) (eB2 oIx (eV 3) (eV 6)) (eV 5)))
noncomputable def q6__law_co_class : EF := (eV 6)
noncomputable def w7__law_co_class : SF := (sIf (bE (eB2 (oIn false) (eV 5) (eV 3))) (sApp (eV 4) (eBi oTupleOf (aCons (eLc (iRg1 (eV 1)) (tNm 6) r5__law_co_class q6__law_co_class [6]) aNil))) sNx)
noncomputable def b__law_co_class : SF := (sSeq (sAsg (eBi oTupleOf (aCons (eLc (iRg1 (eV 1)) (tNm 6) bYes q1__law_co_class [6]) aNil)) (tNm 2))
  (sSeq (sAsg (eLc (iSeq (eV 2)) (tNm 7) bYes q2__law_co_class [7]) (tNm 3))
  (sSeq (sAsg (eLstC (aCons (eBi oTupleOf (aCons (eLc (iRg1 (eV 1)) (tNm 6) r3__law_co_class q4__law_co_class [6]) aNil)) aNil)) (tNm 4))
  (sSeq (sFor (iRg2 (eC (.int 1)) (eB2 oAdd (eV 1) (eC (.int 1)))) (tNm 5) w7__law_co_class)
  (sRet (eTup (aCons (eV 2) (aCons (eBi oTupleOf (aCons (eV 4) aNil)) aNil))))))))
noncomputable def m__law_co_class : FM := fnM false 8 b__law_co_class
noncomputable def w1__law_co_corners : SF := (sExtT (eV 5) (eV 6))
noncomputable def q2__law_co_corners : EF := (eB2 oAdd (eV 8) (eBi oInt (aCons (eB2 (oIn false) (eV 7) (eV 5)) aNil)))
noncomputable def w3__law_co_corners : SF := (sSeq (sAsg (eLstC aNil) (tNm 5))
  (sSeq (sFor (iSeq (eSl (eV 2) (oYes (eB2 oSub (eBi oLen (aCons (eV 2) aNil)) (eV 4))) oNo)) (tNm 6) w1__law_co_corners)
  (sApp (eV 3) (eBi oTupleOf (aCons (eLc (iEnumV (eV 1)) (tTp (lCons (tNm 7) (lCons (tNm 8) lNil))) bYes q2__law_co_corners [7, 8]) aNil)))))
noncomputable def b__law_co_corners : SF := (sSeq (sAsg (eV 0) (tTp (lCons (tNm 1) (lCons (tNm 2) lNil))))
  (sSeq (sAsg (eLstC aNil) (tNm 3))
  (sSeq (sFor (iRg1 (eBi oLen (aCons (eV 2) aNil))) (tNm 4) w3__law_co_corners)
  (sRet (eV 3)))))
noncomputable def m__law_co_corners : FM := fnM false 9 b__law_co_corners
noncomputable def q1__law_co_some : EF := (eCall 2 m__law_pick (aCons (eV 0) (aCons (eLst (aCons (eC (.int 0)) (aCons (eC (.int 0)) (aCons (eC (.int 1)) (aCons (eC (.int 1)) (aCons (eC (.int 2)) (aCons (eC (.int 3)) (aCons (eC (.int 7)) (aCons (eB2 oPow (eC (.int 10)) (eC (.int 9))) (aCons (eCall 2 m__law_roll (aCons (eV 0) (aCons (eC (.int 40)) aNil))) aNil)))))))))) aNil)))
noncomputable def b__law_co_some : SF := (sSeq (sAsg (eLc (iRg1 (eV 1)) (tNm 3) bYes q1__law_co_some [3]) (tNm 2))
  (sSeq (sAsg (eCall 2 m__law_roll (aCons (eV 0) (aCons (eV 1) aNil))) (tNm 3))
  (sRet (eB2 oAdd (eB2 oAdd (eSl (eV 2) oNo (oYes (eV 3))) (eLst (aCons (eB2 oAdd (eB2 oIx (eV 2) (eV 3)) (eC (.int 1))) aNil))) (eSl (eV 2) (oYes (eB2 oAdd (eV 3) (eC (.int 1)))) oNo)))))
noncomputable def m__law_co_some : FM := fnM false 4 b__law_co_some
noncomputable def t1__law_co_low : BF := (bE (eB2 oGt (eV 3) (eC (.int 0))))
noncomputable def w2__law_co_low : SF := (sPar 2 3 (aCons (eV 3) (aCons (eB2 oMod (eV 2) (eV 3)) aNil)))
noncomputable def b__law_co_low : SF := (sSeq (sPar 2 3 (aCons (eBi oAbs (aCons (eV 0) aNil)) (aCons (eV 1) aNil)))
  (sSeq (sWhile t1__law_co_low w2__law_co_low FUEL)
  (sRet (eTup (aCons (eB2 oDiv (eV 0) (eV 2)) (aCons (eB2 oDiv (eV 1) (eV 2)) aNil))))))
noncomputable def m__law_co_low : FM := fnM false 4 b__law_co_low
noncomputable def q1__law_co_told : EF := (eCall 2 m__law_co_low (aCons (eV 2) (aCons (eV 1) aNil)))
noncomputable def b__law_co_told : SF := (sRet (eBi oTupleOf (aCons (eLc (iSeq (eV 0)) (tNm 2) bYes q1__law_co_told [2]) aNil)))
noncomputable def m__law_co_told : FM := fnM false 3 b__law_co_told
noncomputable def q1__law_co_tops : EF := (eB2 oMul (eV 4) (eB2 oIx (eV 5) (eV 3)))
noncomputable def w2__law_co_tops : SF := (sApp (eV 2) (eBi oSum (aCons (eLc (iZipM (eV 1) (eV 0)) (tTp (lCons (tNm 4) (lCons (tNm 5) lNil))) bYes q1__law_co_tops [4, 5]) aNil)))
noncomputable def b__law_co_tops : SF := (sSeq (sAsg (eLstC aNil) (tNm 2))
  (sSeq (sFor (iRg1 (eBi oLen (aCons (eB2 oIx (eV 0) (eC (.int 0))) aNil))) (tNm 3) w2__law_co_tops)
  (sRet (eV 2))))
noncomputable def m__law_co_tops : FM := fnM false 6 b__law_co_tops
noncomputable def q1__law_co_parts : EF := (eCall 2 m__law_co_low (aCons (eV 1) (aCons (eBi oSum (aCons (eV 0) aNil)) aNil)))
noncomputable def b__law_co_parts : SF := (sRet (eBi oTupleOf (aCons (eLc (iSeq (eV 0)) (tNm 1) bYes q1__law_co_parts [1]) aNil)))
noncomputable def m__law_co_parts : FM := fnM false 2 b__law_co_parts
noncomputable def b_order_of : SF := (sSeq (sAsg (eB2 oMul (eB2 oIx (eV 0) (eC (.int 0))) (eB2 oIx (eV 1) (eC (.int 1)))) (tNm 2))
  (sSeq (sAsg (eB2 oMul (eB2 oIx (eV 1) (eC (.int 0))) (eB2 oIx (eV 0) (eC (.int 1)))) (tNm 3))
  (sSeq (sIf (bE (eB2 oLt (eV 2) (eV 3))) (sRet (eB1 oNeg (eC (.int 1)))) sNx)
  (sSeq (sIf (bE (eB2 oGt (eV 2) (eV 3))) (sRet (eC (.int 1))) sNx)
  (sRet (eC (.int 0)))))))
noncomputable def m_order_of : FM := fnM false 4 b_order_of
noncomputable def q1_check_low : EF := (eB2 oGt (eCall 2 m_order_of (aCons (eV 1) (aCons (eTup (aCons (eC (.int 4)) (aCons (eC (.int 1)) aNil))) aNil))) (eC (.int 0)))
noncomputable def b_check_low : SF := (sIf (bTru (eBi oAny (aCons (eLc (iSeq (eV 0)) (tNm 1) bYes q1_check_low [1]) aNil))) sNever sNx)
noncomputable def m_check_low : FM := fnM false 2 b_check_low
noncomputable def b_is_by : SF := (sSeq (sDrop (eCall 1 m_check_class (aCons (eV 0) aNil)))
  (sSeq (sDrop (eCall 2 m_check_readings (aCons (eBi oLen (aCons (eB2 oIx (eV 0) (eC (.int 0))) aNil)) (aCons (eV 1) aNil))))
  (sSeq (sDrop (eCall 1 m_check_low (aCons (eV 1) aNil)))
  (sRet (eB2 (oIs true) (eCall 2 m_rests_by (aCons (eV 0) (aCons (eV 1) aNil))) (eC .none))))))
noncomputable def m_is_by : FM := fnM false 2 b_is_by
noncomputable def q1__law_own_parts : EF := (eB2 oSub (eB2 oIx (eV 1) (eV 11)) (eB2 oMul (eB2 oIx (eV 3) (eV 11)) (eV 2)))
noncomputable def w2__law_own_parts : SF := (sSeq (sAsg (eLc (iSeq (eV 7)) (tNm 11) bYes q1__law_own_parts [11]) (tNm 8))
  (sSeq (sIf (bAnd (bE (eB2 (oEq true) (eV 7) (eTup aNil))) (bE (eB2 (oEq true) (eV 8) (eB2 oRep (eLst (aCons (eB2 oIx (eV 8) (eC (.int 0))) aNil)) (eBi oLen (aCons (eV 8) aNil)))))) (sRet (eC .none)) sNx)
  (sSeq (sIf (bAnd (bE (eB2 (oEq true) (eV 7) (eTup aNil))) (bAnd (bE (eB2 (oEq false) (eV 7) (eB2 oIx (eV 4) (eC (.int 0))))) (bE (eB2 (oEq true) (eB2 oIx (eV 8) (eC (.int 0))) (eC (.int 0)))))) (sRet (eC .none)) sNx)
  (sIf (bE (eB2 (oEq true) (eV 7) (eB2 oIx (eV 4) (eC (.int 0))))) (sApp (eV 5) (eB2 oIx (eV 8) (eC (.int 0)))) sNx))))
noncomputable def w3__law_own_parts : SF := (sSeq (sAsg (eIf (bE (eB2 (oEq false) (eV 9) (eC (.int 0)))) (eV 2) (eB2 oIx (eV 5) (eB2 oSub (eBi oLen (aCons (eV 5) aNil)) (eV 9)))) (tNm 10))
  (sApp (eV 6) (eB2 oSub (eV 10) (eB2 oIx (eV 5) (eB2 oSub (eB2 oSub (eBi oLen (aCons (eV 5) aNil)) (eV 9)) (eC (.int 1)))))))
noncomputable def b__law_own_parts : SF := (sSeq (sAsg (eV 0) (tTp (lCons (tNm 3) (lCons (tNm 4) lNil))))
  (sSeq (sPar 5 6 (aCons (eLstC (aCons (eC (.int 0)) aNil)) (aCons (eLstC aNil) aNil)))
  (sSeq (sFor (iSeq (eV 4)) (tNm 7) w2__law_own_parts)
  (sSeq (sIf (bOr (bE (eB2 (oEq true) (eV 5) (eBi oSortedIT (aCons (eV 5) aNil)))) (bE (eB2 oGt (eB2 oIx (eV 5) (eB1 oNeg (eC (.int 1)))) (eV 2)))) (sRet (eC .none)) sNx)
  (sSeq (sFor (iRg1 (eBi oLen (aCons (eV 5) aNil))) (tNm 9) w3__law_own_parts)
  (sRet (eV 6)))))))
noncomputable def m__law_own_parts : FM := fnM false 12 b__law_own_parts
noncomputable def q1__law_near_right : EF := (eCall 2 m__law_co_low (aCons (eV 11) (aCons (eV 3) aNil)))
noncomputable def w2__law_near_right : SF := (sSeq (sPar 5 6 (aCons (eCall 2 m__law_roll (aCons (eV 0) (aCons (eBi oLen (aCons (eV 2) aNil)) aNil))) (aCons (eCall 2 m__law_pick (aCons (eV 0) (aCons (eLst (aCons (eC (.int 1)) (aCons (eB1 oNeg (eC (.int 1))) (aCons (eV 3) (aCons (eB2 oSub (eC (.int 0)) (eV 3)) (aCons (eCall 2 m__law_roll (aCons (eV 0) (aCons (eB2 oAdd (eV 3) (eC (.int 1))) aNil))) aNil)))))) aNil))) aNil)))
  (sSeq (sAsg (eB2 oAdd (eB2 oAdd (eSl (eV 2) oNo (oYes (eV 5))) (eLst (aCons (eBi oMin2 (aCons (eB2 oMul (eC (.int 4)) (eV 3)) (aCons (eBi oMax2 (aCons (eC (.int 0)) (aCons (eB2 oAdd (eB2 oIx (eV 2) (eV 5)) (eV 6)) aNil))) aNil))) aNil))) (eSl (eV 2) (oYes (eB2 oAdd (eV 5) (eC (.int 1)))) oNo)) (tNm 7))
  (sSeq (sPar 8 9 (aCons (eCall 3 m__law_own_parts (aCons (eV 1) (aCons (eV 7) (aCons (eV 3) aNil)))) (aCons (eCall 2 m__law_co_told (aCons (eV 7) (aCons (eV 3) aNil))) aNil)))
  (sSeq (sAsg (eCall 2 m_parts (aCons (eV 1) (aCons (eV 9) aNil))) (tNm 10))
  (sSeq (sIf (bOr (bE (eB2 (oEq true) (eB2 (oIs false) (eV 10) (eC .none)) (eB2 (oIs false) (eV 8) (eC .none)))) (bE (eB2 (oEq true) (eCall 2 m_is_by (aCons (eV 1) (aCons (eV 9) aNil))) (eB2 (oIs true) (eV 8) (eC .none))))) (sRet (eC (.bool false))) sNx)
  (sIf (bAnd (bE (eB2 (oIs true) (eV 8) (eC .none))) (bE (eB2 (oEq true) (eV 10) (eBi oTupleOf (aCons (eLc (iSeq (eV 8)) (tNm 11) bYes q1__law_near_right [11]) aNil))))) (sRet (eC (.bool false))) sNx))))))
noncomputable def b__law_near_right : SF := (sSeq (sFor (iRg1 (eC (.int 4))) (tNm 4) w2__law_near_right)
  (sRet (eC (.bool true))))
noncomputable def m__law_near_right : FM := fnM false 12 b__law_near_right
noncomputable def b_check_some_readings : SF := (sSeq (sIf (bNot (bTru (eCall 1 m_is_some_row (aCons (eV 0) aNil)))) sNever sNx)
  (sDrop (eCall 2 m_check_readings (aCons (eBi oLen (aCons (eV 0) aNil)) (aCons (eV 0) aNil)))))
noncomputable def m_check_some_readings : FM := fnM false 1 b_check_some_readings
noncomputable def b_whole_of : SF := (sRet (eB2 oDiv (eB2 oIx (eV 0) (eC (.int 0))) (eB2 oIx (eV 0) (eC (.int 1)))))
noncomputable def m_whole_of : FM := fnM false 1 b_whole_of
noncomputable def w1_class_with : SF := (sAsg (eBi oLcm (aCons (eV 1) (aCons (eB2 oIx (eV 2) (eC (.int 1))) aNil))) (tNm 1))
noncomputable def q2_class_with : EF := (eB2 oMul (eB2 oMod (eB2 oIx (eV 2) (eC (.int 0))) (eB2 oIx (eV 2) (eC (.int 1)))) (eB2 oDiv (eV 1) (eB2 oIx (eV 2) (eC (.int 1)))))
noncomputable def r3_class_with : BF := (bE (eB2 oGt (eV 6) (eC (.int 0))))
noncomputable def q4_class_with : EF := (eV 6)
noncomputable def r5_class_with : BF := (bE (eB2 (oEq false) (eB2 oIx (eV 3) (eV 7)) (eV 6)))
noncomputable def q6_class_with : EF := (eV 7)
noncomputable def q7_class_with : EF := (eBi oTupleOf (aCons (eLc (iRg1 (eBi oLen (aCons (eV 3) aNil))) (tNm 7) r5_class_with q6_class_with [7]) aNil))
noncomputable def q8_class_with : EF := (eCall 1 m_whole_of (aCons (eV 2) aNil))
noncomputable def b_class_with : SF := (sSeq (sAsg (eC (.int 1)) (tNm 1))
  (sSeq (sFor (iSeq (eV 0)) (tNm 2) w1_class_with)
  (sSeq (sAsg (eLc (iSeq (eV 0)) (tNm 2) bYes q2_class_with [2]) (tNm 3))
  (sSeq (sAsg (eB2 oAdd (eLst (aCons (eC (.int 0)) aNil)) (eLc (iSeq (eBi oSSetL (aCons (eV 3) aNil))) (tNm 6) r3_class_with q4_class_with [6])) (tNm 4))
  (sSeq (sAsg (eLc (iSeq (eV 4)) (tNm 6) bYes q7_class_with [6]) (tNm 5))
  (sRet (eTup (aCons (eBi oTupleOf (aCons (eLc (iSeq (eV 0)) (tNm 2) bYes q8_class_with [2]) aNil)) (aCons (eBi oTupleOf (aCons (eV 5) aNil)) aNil)))))))))
noncomputable def m_class_with : FM := fnM false 8 b_class_with
noncomputable def b_class_of : SF := (sSeq (sDrop (eCall 1 m_check_some_readings (aCons (eV 0) aNil)))
  (sSeq (sDrop (eCall 1 m_check_low (aCons (eV 0) aNil)))
  (sRet (eCall 1 m_class_with (aCons (eV 0) aNil)))))
noncomputable def m_class_of : FM := fnM false 1 b_class_of
noncomputable def r1__law_right : BF := (bE (eB2 oGt (eV 10) (eC (.int 0))))
noncomputable def q2__law_right : EF := (eV 9)
noncomputable def w3__law_right : SF := (sSeq (sAsg (eCall 2 m__law_co_some (aCons (eV 0) (aCons (eBi oLen (aCons (eV 2) aNil)) aNil))) (tNm 4))
  (sSeq (sPar3 5 6 7 (aCons (eCall 2 m__law_co_tops (aCons (eV 2) (aCons (eV 4) aNil))) (aCons (eBi oSum (aCons (eV 4) aNil)) (aCons (eCall 1 m__law_co_parts (aCons (eV 4) aNil)) aNil))))
  (sSeq (sAsg (eCall 2 m__law_co_told (aCons (eV 5) (aCons (eV 6) aNil))) (tNm 8))
  (sSeq (sIf (bOr (bE (eB2 (oEq true) (eCall 2 m_point (aCons (eV 1) (aCons (eV 7) aNil))) (eV 8))) (bOr (bE (eB2 (oEq true) (eCall 2 m_parts (aCons (eV 1) (aCons (eV 8) aNil))) (eV 7))) (bNot (bTru (eCall 2 m_is_by (aCons (eV 1) (aCons (eV 8) aNil))))))) (sRet (eC (.bool false))) sNx)
  (sSeq (sIf (bE (eB2 (oEq true) (eBi oListOf (aCons (eCall 1 m_corners (aCons (eCall 1 m_class_of (aCons (eV 8) aNil)) aNil)) aNil)) (eLc (iZipM (eV 2) (eV 4)) (tTp (lCons (tNm 9) (lCons (tNm 10) lNil))) r1__law_right q2__law_right [9, 10]))) (sRet (eC (.bool false))) sNx)
  (sIf (bOr (bE (eB2 (oEq true) (eB2 (oEq false) (eCall 1 m_class_of (aCons (eV 8) aNil)) (eV 1)) (eB2 (oIn true) (eC (.int 0)) (eV 4)))) (bNot (bTru (eCall 4 m__law_near_right (aCons (eV 0) (aCons (eV 1) (aCons (eV 5) (aCons (eV 6) aNil)))))))) (sRet (eC (.bool false))) sNx))))))
noncomputable def b__law_right : SF := (sSeq (sAsg (eCall 2 m__law_co_class (aCons (eV 0) (aCons (eB2 oAdd (eC (.int 1)) (eCall 2 m__law_roll (aCons (eV 0) (aCons (eC (.int 3)) aNil)))) aNil))) (tNm 1))
  (sSeq (sAsg (eCall 1 m__law_co_corners (aCons (eV 1) aNil)) (tNm 2))
  (sSeq (sIf (bOr (bE (eB2 (oEq true) (eCall 1 m_corners (aCons (eV 1) aNil)) (eBi oTupleOf (aCons (eV 2) aNil)))) (bE (eB2 (oEq true) (eBi oLenT (aCons (eV 2) aNil)) (eBi oLen (aCons (eV 2) aNil))))) (sRet (eC (.bool false))) sNx)
  (sSeq (sFor (iRg1 (eC (.int 5))) (tNm 3) w3__law_right)
  (sRet (eC (.bool true)))))))
noncomputable def m__law_right : FM := fnM false 11 b__law_right
noncomputable def w1_law : SF := (sIf (bNot (bTru (eCall 1 m__law_right (aCons (eV 2) aNil)))) (sRet (eC (.bool false))) sNx)
noncomputable def w2_law : SF := (sSeq (sAsg (eCall 2 m__law_dice (aCons (eV 0) (aCons (eV 1) aNil))) (tNm 2))
  (sFor (iRg1 (eC (.int 3))) (tNm 3) w1_law))
noncomputable def b_law : SF := (sSeq (sFor (iRg1 (eBi oMax2 (aCons (eC (.int 1)) (aCons (eBi oMin2 (aCons (eC (.int 3)) (aCons (eBi oLen (aCons (eV 0) aNil)) aNil))) aNil)))) (tNm 1) w2_law)
  (sSeq (sAsg (eTup (aCons (eTup (aCons (eTup (aCons (eC (.int 1)) (aCons (eC (.int 0)) aNil))) (aCons (eTup (aCons (eTup (aCons (eC (.int 0)) aNil)) (aCons (eTup (aCons (eC (.int 1)) aNil)) aNil))) aNil))) (aCons (eTup (aCons (eTup (aCons (eC (.int 3)) (aCons (eC (.int 0)) (aCons (eC (.int 1)) aNil)))) (aCons (eTup (aCons (eTup aNil) (aCons (eTup (aCons (eC (.int 1)) (aCons (eC (.int 2)) aNil))) (aCons (eTup (aCons (eC (.int 0)) aNil)) aNil)))) aNil))) aNil))) (tTp (lCons (tNm 4) (lCons (tNm 5) lNil))))
  (sSeq (sAsg (eLst (aCons (eCall 1 m_corners (aCons (eV 4) aNil)) (aCons (eCall 1 m_corners (aCons (eV 5) aNil)) (aCons (eCall 1 m_corners (aCons (eTup (aCons (eTup (aCons (eC (.int 4)) aNil)) (aCons (eTup (aCons (eTup (aCons (eC (.int 0)) aNil)) aNil)) aNil))) aNil)) (aCons (eCall 2 m_parts (aCons (eV 4) (aCons (eTup (aCons (eTup (aCons (eC (.int 1)) (aCons (eC (.int 1)) aNil))) (aCons (eTup (aCons (eC (.int 1)) (aCons (eC (.int 3)) aNil))) aNil))) aNil))) (aCons (eCall 2 m_parts (aCons (eV 4) (aCons (eTup (aCons (eTup (aCons (eC (.int 3)) (aCons (eC (.int 2)) aNil))) (aCons (eTup (aCons (eC (.int 1)) (aCons (eC (.int 3)) aNil))) aNil))) aNil))) aNil)))))) (tNm 6))
  (sSeq (sAsg (eLst (aCons (eTup (aCons (eTup (aCons (eC (.int 1)) (aCons (eC (.int 0)) aNil))) (aCons (eTup (aCons (eC (.int 1)) (aCons (eC (.int 1)) aNil))) aNil))) (aCons (eTup (aCons (eTup (aCons (eC (.int 3)) (aCons (eC (.int 0)) (aCons (eC (.int 1)) aNil)))) (aCons (eTup (aCons (eC (.int 4)) (aCons (eC (.int 0)) (aCons (eC (.int 1)) aNil)))) (aCons (eTup (aCons (eC (.int 4)) (aCons (eC (.int 1)) (aCons (eC (.int 2)) aNil)))) aNil)))) (aCons (eTup (aCons (eTup (aCons (eC (.int 4)) aNil)) aNil)) (aCons (eTup (aCons (eTup (aCons (eC (.int 2)) (aCons (eC (.int 3)) aNil))) (aCons (eTup (aCons (eC (.int 1)) (aCons (eC (.int 3)) aNil))) aNil))) (aCons (eC .none) aNil)))))) (tNm 7))
  (sRet (eAnd (eB2 (oEq false) (eV 6) (eV 7)) (eB2 (oEq false) (eCall 2 m_point (aCons (eV 5) (aCons (eTup (aCons (eTup (aCons (eC (.int 1)) (aCons (eC (.int 2)) aNil))) (aCons (eTup (aCons (eC (.int 1)) (aCons (eC (.int 4)) aNil))) (aCons (eTup (aCons (eC (.int 1)) (aCons (eC (.int 4)) aNil))) aNil)))) aNil))) (eTup (aCons (eTup (aCons (eC (.int 7)) (aCons (eC (.int 2)) aNil))) (aCons (eTup (aCons (eC (.int 1)) (aCons (eC (.int 4)) aNil))) (aCons (eTup (aCons (eC (.int 5)) (aCons (eC (.int 4)) aNil))) aNil)))))))))))
noncomputable def m_law : FM := fnM false 8 b_law
end MR
end
section
set_option Elab.async false
set_option linter.all false
namespace MF
open PySem
/-- the fraction t / b in lowest terms, the bottom above 0 -/
def L (t b : Int) : Int × Int := (t.fdiv (if b < 0 then -((Nat.gcd t.natAbs b.natAbs : Nat) : Int) else ((Nat.gcd t.natAbs b.natAbs : Nat) : Int)), b.fdiv (if b < 0 then -((Nat.gcd t.natAbs b.natAbs : Nat) : Int) else ((Nat.gcd t.natAbs b.natAbs : Nat) : Int)))
def IsF (p : Int × Int) : Prop := 0 < p.2 ∧ Nat.gcd p.1.natAbs p.2.natAbs = 1
theorem L_iff {s x y : Int} (hs : s ≠ 0) (hy : 0 < y) (h : Nat.gcd x.natAbs y.natAbs = 1) : L (s * x) (s * y) = (x, y) := by
  have e : Nat.gcd (s * x).natAbs (s * y).natAbs = s.natAbs := by
    rw [Int.natAbs_mul, Int.natAbs_mul, Nat.gcd_mul_left, h, Nat.mul_one]
  have e2 : (if s * y < 0 then -((s.natAbs : Nat) : Int) else ((s.natAbs : Nat) : Int)) = s := by
    by_cases c : s < 0
    · rw [if_pos (Int.mul_neg_of_neg_of_pos c hy)]; omega
    · have : 0 ≤ s * y := Int.mul_nonneg (by omega) (by omega)
      rw [if_neg (by omega)]; omega
  unfold L
  rw [e, e2, Int.mul_fdiv_cancel_left _ hs, Int.mul_fdiv_cancel_left _ hs]
theorem L_ex (t : Int) {b : Int} (hb : b ≠ 0) : ∃ s x y : Int, s ≠ 0 ∧ t = s * x ∧ b = s * y ∧ 0 < y ∧ Nat.gcd x.natAbs y.natAbs = 1 ∧ L t b = (x, y) := by
  have hg : 0 < Nat.gcd t.natAbs b.natAbs := Nat.gcd_pos_of_pos_right _ (by omega)
  have d1 : ((Nat.gcd t.natAbs b.natAbs : Nat) : Int) ∣ t := Int.ofNat_dvd_left.mpr (Nat.gcd_dvd_left _ _)
  have d2 : ((Nat.gcd t.natAbs b.natAbs : Nat) : Int) ∣ b := Int.ofNat_dvd_left.mpr (Nat.gcd_dvd_right _ _)
  obtain ⟨x, hx⟩ := d1
  obtain ⟨y, hy⟩ := d2
  generalize hgg : Nat.gcd t.natAbs b.natAbs = g at hg hx hy
  have cop : Nat.gcd x.natAbs y.natAbs = 1 := by
    have e : Nat.gcd t.natAbs b.natAbs = g * Nat.gcd x.natAbs y.natAbs := by
      rw [hx, hy, Int.natAbs_mul, Int.natAbs_mul, Int.natAbs_natCast, Nat.gcd_mul_left]
    rw [hgg] at e
    have : g * Nat.gcd x.natAbs y.natAbs = g * 1 := by omega
    exact Nat.eq_of_mul_eq_mul_left hg this
  have y0 : y ≠ 0 := by rintro rfl; simp at hy; exact hb hy
  by_cases c : 0 < y
  · refine ⟨g, x, y, by omega, hx, hy, c, cop, ?_⟩
    rw [hx, hy]
    exact L_iff (by omega) c cop
  · refine ⟨-(g : Int), -x, -y, by omega, by rw [Int.neg_mul_neg]; exact hx, by rw [Int.neg_mul_neg]; exact hy, by omega, by rw [Int.natAbs_neg, Int.natAbs_neg]; exact cop, ?_⟩
    have e1 : t = -(g : Int) * -x := by rw [Int.neg_mul_neg]; exact hx
    have e2 : b = -(g : Int) * -y := by rw [Int.neg_mul_neg]; exact hy
    rw [e1, e2]
    exact L_iff (by omega) (by omega) (by rw [Int.natAbs_neg, Int.natAbs_neg]; exact cop)
theorem L_isF (t : Int) {b : Int} (hb : b ≠ 0) : IsF (L t b) := by
  obtain ⟨s, x, y, hs, ht, hb', hy, hc, e⟩ := L_ex t hb
  rw [e]; exact ⟨hy, hc⟩
theorem L_of {p : Int × Int} (h : IsF p) : L p.1 p.2 = p := by
  have := L_iff (s := 1) (by decide) h.1 h.2
  simpa using this
theorem L_scale {k t b : Int} (hk : k ≠ 0) (hb : b ≠ 0) : L (k * t) (k * b) = L t b := by
  obtain ⟨s, x, y, hs, ht, hb', hy, hc, e⟩ := L_ex t hb
  rw [e, ht, hb', ← Int.mul_assoc, ← Int.mul_assoc]
  exact L_iff (Int.mul_ne_zero hk hs) hy hc
theorem nabs_le {s x : Int} (hs : s ≠ 0) : x.natAbs ≤ (s * x).natAbs := by
  rw [Int.natAbs_mul]
  exact Nat.le_mul_of_pos_left _ (by omega)
theorem L_le1 (t : Int) {b : Int} (hb : b ≠ 0) : (L t b).1.natAbs ≤ t.natAbs := by
  obtain ⟨s, x, y, hs, ht, hb', hy, hc, e⟩ := L_ex t hb
  rw [e, ht]; exact nabs_le hs
theorem L_le2 (t : Int) {b : Int} (hb : b ≠ 0) : (L t b).2.natAbs ≤ b.natAbs := by
  obtain ⟨s, x, y, hs, ht, hb', hy, hc, e⟩ := L_ex t hb
  rw [e, hb']; exact nabs_le hs
/-- what stands for the same -/
theorem L_eq {t b u c : Int} (hb : b ≠ 0) (hc : c ≠ 0) (h : t * c = u * b) : L t b = L u c := by
  rw [← L_scale (k := c) hc hb, ← L_scale (k := b) hb hc, Int.mul_comm c t, Int.mul_comm b u, h, Int.mul_comm c b]
theorem L_val (t : Int) {b : Int} (hb : b ≠ 0) : (L t b).1 * b = t * (L t b).2 := by
  obtain ⟨s, x, y, hs, ht, hb', hy, hc, e⟩ := L_ex t hb
  rw [e, ht, hb']
  show x * (s * y) = s * x * y
  rw [← Int.mul_assoc, Int.mul_comm x s]
end MF
end
section
set_option Elab.async false
set_option linter.all false
set_option maxRecDepth 100000
namespace MR
open PySem PySem.Spec PyProof.Rows L2 VL
theorem srcOk_none (all : List PyData) (μ : Mu) : srcOk none all μ := fun n h => by cases h
/-- a comprehension over data, its test and its item told -/
theorem lc_fm {t : TF} {tt : BF} {fe : EF} {all : List PyData} {ρ : Rho} {μ : Mu} (b : PyData → Bool) (g : PyData → PyData) : ∀ ds : List PyData, (∀ d ∈ ds, ∃ ρ1, t (.d d) ρ = some ρ1 ∧ tt ρ1 μ = some (b d, μ) ∧ (b d = true → fe ρ1 μ = some (.d (g d), μ))) → VL.lcM t tt fe none all ds ρ μ = some ((ds.filter b).map g, μ)
  | [], _ => by simp [VL.lcM, srcOk_none]
  | d :: ds, h => by
    obtain ⟨ρ1, e1, e2, e3⟩ := h d (by simp)
    have ih := lc_fm (t := t) (tt := tt) (fe := fe) (all := all) (ρ := ρ) (μ := μ) b g ds fun x hx => h x (List.mem_cons_of_mem _ hx)
    cases hb : b d with
    | true => simp [VL.lcM, srcOk_none, e1, e2, e3 hb, ih, hb]
    | false => simp [VL.lcM, srcOk_none, e1, e2, ih, hb]
theorem lc_m {t : TF} {fe : EF} {all : List PyData} {ρ : Rho} {μ : Mu} (g : PyData → PyData) (ds : List PyData) (h : ∀ d ∈ ds, ∃ ρ1, t (.d d) ρ = some ρ1 ∧ fe ρ1 μ = some (.d (g d), μ)) : VL.lcM t bYes fe none all ds ρ μ = some (ds.map g, μ) := by
  have := lc_fm (t := t) (tt := bYes) (fe := fe) (all := all) (ρ := ρ) (μ := μ) (fun _ => true) g ds fun d hd => by
    obtain ⟨ρ1, e1, e2⟩ := h d hd
    exact ⟨ρ1, e1, rfl, fun _ => e2⟩
  rw [this, List.filter_eq_self.mpr (fun _ _ => rfl)]
def nI (l : List Int) : List PyData := l.map .int
def tI (l : List Int) : PyData := .tuple (nI l)
def tL (os : List (List Int)) : PyData := .tuple (os.map tI)
def cl (ws : List Int) (os : List (List Int)) : PyData := .tuple [tI ws, tL os]
theorem plainA_nI : ∀ l : List Int, PyData.plainAll (nI l) = true
  | [] => by simp [nI, PyData.plainAll]
  | x :: l => by
    have := plainA_nI l
    simp only [nI, List.map_cons] at *
    simp [PyData.plainAll, PyData.plain, this]
theorem depthA_nI : ∀ l : List Int, PyData.depthAll (nI l) = 0
  | [] => by simp [nI, PyData.depthAll]
  | x :: l => by
    have := depthA_nI l
    simp only [nI, List.map_cons] at *
    simp [PyData.depthAll, PyData.depth, this]
theorem plain_tI (l : List Int) : (tI l).plain = true := by simp [tI, PyData.plain, plainA_nI]
theorem eqvA_nI : ∀ a b : List Int, PyData.eqvAll (nI a) (nI b) = decide (a = b)
  | [], [] => by simp [nI, PyData.eqvAll]
  | [], x :: b => by simp [nI, PyData.eqvAll]
  | x :: a, [] => by simp [nI, PyData.eqvAll]
  | x :: a, y :: b => by
    have := eqvA_nI a b
    simp only [nI, List.map_cons] at *
    simp [PyData.eqvAll, PyData.eqv, this]
    rfl
theorem eqv_tI (a b : List Int) : PyData.eqv (tI a) (tI b) = decide (a = b) := by simp [tI, PyData.eqv, eqvA_nI]
theorem atI_nat {α : Type} (xs : List α) (i : Nat) (h : i < xs.length) : atI xs (i : Int) = xs[i]? := by
  unfold atI ixN
  rw [if_pos (by omega), if_pos (by omega)]
  rfl
def gd (ws : List Int) (i : Nat) : Int := ws.getD i 0
theorem atI_nI {ws : List Int} {i : Nat} (h : i < ws.length) : atI (nI ws) (i : Int) = some (.int (gd ws i)) := by
  rw [atI_nat _ _ (by simpa [nI] using h)]
  simp [nI, h, gd]
theorem mem_nI (x : Int) (l : List Int) : ((nI l).any fun z => PyData.eqv z (.int x)) = decide (x ∈ l) := by
  induction l with
  | nil => simp [nI]
  | cons y l ih =>
    simp only [nI, List.map_cons, List.any_cons] at *
    rw [ih]
    by_cases h : y = x
    · subst h; simp [PyData.eqv]
    · have h2 : ¬ x = y := fun z => h z.symm
      simp [PyData.eqv, h, h2]
theorem oIn_nI (neg : Bool) (μ : Mu) (x : Int) (l : List Int) : oIn neg μ (.d (.int x)) (.d (tI l)) = some (.d (.bool (if neg then !decide (x ∈ l) else decide (x ∈ l)))) := by
  simp only [oIn, toD, tI, plainA_nI, depthA_nI, mem_nI]
  simp [PyData.plain, PyData.depth]
def rz (ws lot : List Int) : List Int := (List.range ws.length).map fun (i : Nat) => if (i : Int) ∈ lot then gd ws i + 1 else gd ws i
theorem rz_len (ws lot : List Int) : (rz ws lot).length = ws.length := by simp [rz]
theorem v_raised (μ : Mu) (ws lot : List Int) (hl : ws.length ≤ 1000) : m_raised μ [.d (tI ws), .d (tI lot)] = some (.d (tI (rz ws lot)), μ) := by
  have hn : (nI ws).length = ws.length := by simp [nI]
  have hr : rgOk 0 (ws.length : Int) := ⟨by omega, by omega, by omega, by omega⟩
  have e := lc_m (t := tNm 2) (fe := q1_raised) (all := rngD 0 ws.length) (ρ := [some (.d (tI ws)), some (.d (tI lot)), none]) (μ := μ)
    (fun d => match d with | .int i => .int (if i ∈ lot then gd ws i.toNat + 1 else gd ws i.toNat) | d => d) (rngD 0 ws.length) (fun d hd => by
      obtain ⟨i, hi⟩ := List.getElem?_of_mem hd
      obtain ⟨h1, rfl⟩ := rngD_get hi
      refine ⟨_, rfl, ?_⟩
      have ha := atI_nI (ws := ws) (i := i) h1
      by_cases h : (i : Int) ∈ lot
      · simp [q1_raised, tI, oIn_nI, h, ha, mem_nI, plainA_nI, depthA_nI, PyData.plain, PyData.depth]
      · simp [q1_raised, tI, oIn_nI, h, ha, mem_nI, plainA_nI, depthA_nI, PyData.plain, PyData.depth])
  have hm : (rngD 0 ws.length).map (fun d => match d with | .int i => PyData.int (if i ∈ lot then gd ws i.toNat + 1 else gd ws i.toNat) | d => d) = nI (rz ws lot) := by
    simp only [rngD, nI, rz, List.map_map]
    refine List.map_congr_left fun i _ => ?_
    simp
  rw [hm] at e
  have hx : (nI ws).length = ws.length := hn
  simp [m_raised, b_raised, fnM, tI, hx, hr, wipeR] at e ⊢
  rw [e]
  simp [rz_len, nI, hl, Nat.le_trans hl (show 1000 ≤ 1000000 by decide)]
end MR
end
section
set_option Elab.async false
set_option linter.all false
set_option maxRecDepth 100000
namespace MR
open PySem PySem.Spec PyProof.Rows L2 VL
theorem cut1 (xs : List PyData) : VL.cutD xs (some 1) none = xs.drop 1 := by
  unfold VL.cutD HT.sIx
  cases xs with
  | nil => simp
  | cons x xs => simp
theorem cut1m (xs : List PyData) (h : xs ≠ []) : VL.cutD xs (some 1) (some (-1)) = (xs.drop 1).dropLast := by
  unfold VL.cutD HT.sIx
  cases xs with
  | nil => exact absurd rfl h
  | cons x xs =>
    rw [List.dropLast_eq_take]
    simp
    congr 1
    omega
theorem atI_last (xs : List PyData) (x : PyData) : atI (x :: xs) (-1) = some ((x :: xs).getLast (by simp)) := by
  unfold atI ixN
  rw [if_neg (by omega), if_pos (by simp; omega)]
  rw [List.getLast_eq_getElem]
  have : (-1 + ((x :: xs).length : Int)).toNat = xs.length := by simp; omega
  show (x :: xs)[(-1 + ((x :: xs).length : Int)).toNat]? = _
  rw [this]
  simp
def wt : PyData := .tuple [.str "wait"]
def dr (lot : List Int) : PyData := .tuple [.str "door", tI lot]
theorem eqv_ww : PyData.eqv wt wt = true := by kernel_rfl
theorem eqv_dw (lot : List Int) : PyData.eqv (dr lot) wt = false := by kernel_rfl
theorem plain_wt : wt.plain = true := by simp [wt, PyData.plain, PyData.plainAll]
theorem plain_dr (lot : List Int) : (dr lot).plain = true := by simp [dr, tI, PyData.plain, PyData.plainAll, plainA_nI]
theorem depth_wt : wt.depth = 1 := by simp [wt, PyData.depth, PyData.depthAll]
theorem depth_tI (l : List Int) : (tI l).depth = 1 := by simp [tI, PyData.depth, depthA_nI]
theorem depth_dr (lot : List Int) : (dr lot).depth = 2 := by simp [dr, tI, PyData.depth, PyData.depthAll, depthA_nI]
theorem oEq_of {neg : Bool} {μ : Mu} {p q : PyData} (hp : p.plain = true) (hq : q.plain = true) (hd : q.depth ≤ 100) : oEq neg μ (.d p) (.d q) = some (.d (.bool (if neg then !PyData.eqv p q else PyData.eqv p q))) := by
  have : min p.depth q.depth ≤ 100 := Nat.le_trans (Nat.min_le_right _ _) hd
  simp [oEq, toD, hp, hq, this]
theorem oEq_ww (neg : Bool) (μ : Mu) : oEq neg μ (.d wt) (.d (.tuple [.str "wait"])) = some (.d (.bool (!neg))) := by
  have := oEq_of (neg := neg) (μ := μ) (p := wt) (q := wt) plain_wt plain_wt (by rw [depth_wt]; decide)
  rw [eqv_ww] at this
  cases neg <;> exact this
theorem oEq_dw (neg : Bool) (μ : Mu) (lot : List Int) : oEq neg μ (.d (dr lot)) (.d (.tuple [.str "wait"])) = some (.d (.bool neg)) := by
  have := oEq_of (neg := neg) (μ := μ) (p := dr lot) (q := wt) (plain_dr lot) plain_wt (by rw [depth_wt]; decide)
  rw [eqv_dw] at this
  cases neg <;> exact this
/-- 0 for the clocks that are put back -/
def zr (ws lot : List Int) : List Int := (List.range ws.length).map fun (i : Nat) => if (i : Int) ∈ lot then 0 else gd ws i
theorem zr_len (ws lot : List Int) : (zr ws lot).length = ws.length := by simp [zr]
theorem atI0 (x : PyData) (xs : List PyData) : atI (x :: xs) 0 = some x := by
  have := atI_nat (x :: xs) 0 (by simp)
  simpa using this
theorem atI_tL0 (o : List Int) (os : List (List Int)) : atI ((o :: os).map tI) 0 = some (tI o) := by
  have := atI_nat ((o :: os).map tI) 0 (by simp)
  simpa using this
theorem map_rng (n : Nat) (f : Nat → PyData) (g : PyData → PyData) (h : ∀ i : Nat, g (.int (i : Int)) = f i) : (rngD 0 n).map g = (List.range n).map f := by
  simp only [rngD, List.map_map]
  refine List.map_congr_left fun i _ => ?_
  simp [h]
theorem rg_of {n : Nat} (h : n ≤ 1000) : rgOk 0 (n : Int) := ⟨by omega, by omega, by omega, by omega⟩
theorem lc_zr {μ : Mu} {ρ : Rho} {fe : EF} {v : Nat} (ws lot : List Int) (h : ∀ i : Nat, i < ws.length → ∃ ρ1, tNm v (.d (.int i)) ρ = some ρ1 ∧ fe ρ1 μ = some (.d (.int (if (i : Int) ∈ lot then 0 else gd ws i)), μ)) :
    VL.lcM (tNm v) bYes fe none (rngD 0 ws.length) (rngD 0 ws.length) ρ μ = some (nI (zr ws lot), μ) := by
  rw [lc_m (fun d => match d with | .int i => .int (if i ∈ lot then 0 else gd ws i.toNat) | d => d) (rngD 0 ws.length) (fun d hd => by
    obtain ⟨i, hi⟩ := List.getElem?_of_mem hd
    obtain ⟨h1, rfl⟩ := rngD_get hi
    obtain ⟨ρ1, e1, e2⟩ := h i h1
    refine ⟨ρ1, by simpa using e1, ?_⟩
    simpa using e2)]
  rw [map_rng ws.length (fun i => .int (if (i : Int) ∈ lot then 0 else gd ws i)) _ (fun i => by simp)]
  simp [nI, zr]
theorem atI_int {ws : List Int} {c : Int} (h0 : 0 ≤ c) (h1 : c < ws.length) : atI (nI ws) c = some (.int (gd ws c.toNat)) := by
  have := atI_nI (ws := ws) (i := c.toNat) (by omega)
  rwa [Int.toNat_of_nonneg h0] at this
theorem toB_map {α : Type} (f : α → Bool) : ∀ l : List α, toB (l.map fun x => PyData.bool (f x)) = some (l.map f)
  | [] => rfl
  | x :: l => by simp [toB_map f l]
def Val (n : Nat) (o : List Int) : Prop := ∀ c ∈ o, 0 ≤ c ∧ c < n
def lastL (o : List Int) (os : List (List Int)) : List Int := (o :: os).getLast (by simp)
def behP (ws : List Int) (o : List Int) (os : List (List Int)) : PyData := if (o.any fun c => decide (gd ws c.toNat = 4)) = true then .none else if o ≠ [] then cl ws ([] :: o :: os) else cl (rz ws (lastL o os)) (lastL o os :: os.dropLast)
theorem last_tI (o : List Int) (os : List (List Int)) : (tI o :: os.map tI).getLast (by simp) = tI (lastL o os) := by
  have : tI o :: os.map tI = (o :: os).map tI := rfl
  simp only [this, List.getLast_map, lastL]
/-- what putting back makes of the lots -/
def lf (os : List (List Int)) (lot : List Int) : List (List Int) := os.map fun o => o.filter fun c => !decide (c ∈ lot)
def putP (ws : List Int) (o : List Int) (os : List (List Int)) (lot : List Int) : PyData := cl (zr ws lot) (isrt ((o.filter fun c => !decide (c ∈ lot)) ++ lot) :: (lf os lot).filter fun o => !o.isEmpty)
theorem toI_nI : ∀ l : List Int, toI (nI l) = some l
  | [] => rfl
  | x :: l => by
    have := toI_nI l
    simp only [nI, List.map_cons] at *
    simp [this]
theorem nI_app (a b : List Int) : nI a ++ nI b = nI (a ++ b) := by simp [nI]
theorem nI_len (a : List Int) : (nI a).length = a.length := by simp [nI]
theorem tI_filter (l : List (List Int)) : (l.map tI).filter (fun d => match d with | .tuple ds => !ds.isEmpty | _ => false) = (l.filter fun o => !o.isEmpty).map tI := by
  rw [List.filter_map]
  congr 1
  refine List.filter_congr fun o _ => ?_
  cases o <;> rfl
theorem nI_filter (l : List Int) (f : Int → Bool) : (nI l).filter (fun d => match d with | .int c => f c | _ => false) = nI (l.filter f) := by
  simp only [nI]
  rw [List.filter_map]
  rfl
end MR
end
section
set_option Elab.async false
set_option linter.all false
set_option maxRecDepth 100000
namespace MR
open PySem PySem.Spec PyProof.Rows L2 VL
theorem lc2_m {t : TF} {fi1 : IF} {t1 : TF} {fe : EF} {vs1 : List Nat} {all : List PyData} {ρ : Rho} {μ : Mu} (f : PyData → List PyData) : ∀ ds : List PyData, (∀ d ∈ ds, ∃ ρ1 ds1, t (.d d) ρ = some ρ1 ∧ fi1 ρ1 μ = some (ds1, none, μ) ∧ VL.lcM t1 bYes fe none ds1 ds1 (wipeR ρ1 vs1) μ = some (f d, μ)) → VL.lcM2 t bYes fi1 t1 bYes fe vs1 none all ds ρ μ = some (ds.flatMap f, μ)
  | [], _ => by simp [VL.lcM2, srcOk_none]
  | d :: ds, h => by
    obtain ⟨ρ1, ds1, e1, e2, e3⟩ := h d (by simp)
    have ih := lc2_m (t := t) (fi1 := fi1) (t1 := t1) (fe := fe) (vs1 := vs1) (all := all) (ρ := ρ) (μ := μ) f ds fun x hx => h x (List.mem_cons_of_mem _ hx)
    simp [VL.lcM2, srcOk_none, e1, e2, e3, ih]
def ascB (last most : Int) : List Int → Bool
  | [] => true
  | x :: l => decide (last < x) && (decide (x < most) && ascB x most l)
theorem v_asc_go (μ : Mu) (most : Int) (p : Option Vw) (all : List PyData) : ∀ (x : List Int) (last : Int) (q : Option Vw), ascB last most x = true → ∃ ρ', VL.forM (tNm 3) w1_is_ascending none all (nI x) [some (.d (.int most)), p, some (.d (.int last)), q] μ = some (.nx ρ' μ)
  | [], last, q, _ => ⟨_, by simp [nI, VL.forM, srcOk_none]; rfl⟩
  | c :: x, last, q, h => by
    unfold ascB at h
    simp only [Bool.and_eq_true, decide_eq_true_eq] at h
    obtain ⟨h1, h2, h3⟩ := h
    obtain ⟨ρ', e⟩ := v_asc_go μ most p all x c (some (.d (.int c))) h3
    refine ⟨ρ', ?_⟩
    simp only [nI, List.map_cons] at *
    simp [VL.forM, srcOk_none, w1_is_ascending, isaB, tyN, h1, h2]
    exact e
theorem v_is_ascending (μ : Mu) {most : Int} {x : List Int} (h : ascB (-1) most x = true) : m_is_ascending μ [.d (.int most), .d (.tuple (nI x))] = some (.d (.bool true), μ) := by
  obtain ⟨ρ', e⟩ := v_asc_go μ most (some (.d (.tuple (nI x)))) (nI x) x (-1) none h
  simp [m_is_ascending, b_is_ascending, fnM, isaB, tyN, e]
theorem v_is_from_to (μ : Mu) {w : Int} (h0 : 0 ≤ w) (h1 : w ≤ 4) : m_is_from_to μ [.d (.int w), .d (.int 0), .d (.int 4)] = some (.d (.bool true), μ) := by
  have a1 : (-999999999999999999999999999999999999999999999999999999999999 : Int) ≤ w := by omega
  have a2 : w ≤ 999999999999999999999999999999999999999999999999999999999999 := by omega
  simp [m_is_from_to, b_is_from_to, m_is_number, b_is_number, fnM, isaB, tyN, h0, h1, a1, a2]
theorem v_is_row (μ : Mu) (n : Int) (ds : List PyData) (h : (ds.length : Int) = n) : m_is_row μ [.d (.int n), .d (.tuple ds)] = some (.d (.bool true), μ) := by
  simp [m_is_row, b_is_row, fnM, isaB, tyN, h, PyData.plain, PyData.depth, PyData.eqv]
theorem toB_true {α : Type} : ∀ l : List α, toB (l.map fun _ => PyData.bool true) = some (l.map fun _ => true)
  | [] => rfl
  | x :: l => by simp [toB_true l]
theorem all_true {α : Type} (l : List α) : (l.map fun _ => true).all id = true := by simp
theorem v_are_numbers (μ : Mu) {ws : List Int} {n : Int} (hn : (ws.length : Int) = n) (hl : ws.length ≤ 1000) (hw : ∀ w ∈ ws, 0 ≤ w ∧ w ≤ 4) : m_are_numbers μ [.d (.int n), .d (.int 0), .d (.int 4), .d (.tuple (nI ws))] = some (.d (.bool true), μ) := by
  have e : ∀ a b : Option Vw, VL.lcM (tNm 4) bYes q1_are_numbers none (nI ws) (nI ws) (wipeR [a, some (.d (.int 0)), some (.d (.int 4)), b, none] [4]) μ = some (ws.map fun _ => PyData.bool true, μ) := fun a b => by
    rw [lc_m (fun _ => .bool true) (nI ws) (fun d hd => by
      obtain ⟨w, hw1, rfl⟩ := List.mem_map.mp hd
      obtain ⟨h0, h1⟩ := hw w hw1
      refine ⟨_, rfl, ?_⟩
      have := v_is_from_to μ h0 h1
      simp [q1_are_numbers, wipeR, this])]
    simp [nI]
  have hr := v_is_row μ n (nI ws) (by rw [nI_len]; exact hn)
  have hB := toB_true ws
  have l1 : ws.length ≤ 1000000 := by omega
  simp [m_are_numbers, b_are_numbers, fnM, hr, e, l1, hB]
theorem plainA_tL : ∀ os : List (List Int), PyData.plainAll (os.map tI) = true
  | [] => by simp [PyData.plainAll]
  | o :: os => by simp [PyData.plainAll, plain_tI, plainA_tL os]
theorem mem_tL : ∀ os : List (List Int), ((os.map tI).any fun z => PyData.eqv z (.tuple [])) = decide ([] ∈ os)
  | [] => by simp
  | o :: os => by
    have ih := mem_tL os
    have e : PyData.eqv (tI o) (.tuple []) = decide (o = []) := eqv_tI o []
    simp only [List.map_cons, List.any_cons, e, ih]
    by_cases h : o = []
    · subst h; simp
    · have h2 : ¬ [] = o := fun z => h z.symm
      simp [h, h2]
theorem oIn_tL (μ : Mu) (os : List (List Int)) : oIn false μ (.d (.tuple [])) (.d (.tuple (os.map tI))) = some (.d (.bool (decide ([] ∈ os)))) := by
  have e : min (PyData.depthAll (os.map tI)) (PyData.tuple []).depth ≤ 100 := Nat.le_trans (Nat.min_le_right _ _) (by simp [PyData.depth, PyData.depthAll])
  have e2 : (PyData.tuple []).plain = true := by simp [PyData.plain, PyData.plainAll]
  simp only [oIn, toD, plainA_tL, mem_tL, e2]
  rw [if_pos (by simp; simpa using e)]
  rfl
def upto (n : Nat) : List Int := (List.range n).map fun (i : Nat) => (i : Int)
theorem rngD_nI (n : Nat) : rngD 0 n = nI (upto n) := by
  simp only [rngD, nI, upto, List.map_map]
  refine List.map_congr_left fun i _ => ?_
  simp
/-- a class in its form -/
structure Cls (ws o : List Int) (os : List (List Int)) : Prop where
  n0 : 1 ≤ ws.length
  n3 : ws.length ≤ 3
  w : ∀ x ∈ ws, 0 ≤ x ∧ x ≤ 4
  asc : ∀ x ∈ o :: os, ascB (-1) ws.length x = true
  ne : [] ∉ os
  srt : isrt ((o :: os).flatten) = upto ws.length
  low : ∀ x ∈ os, ∀ c ∈ x, gd ws c.toNat < 4
theorem asc_bd : ∀ {x : List Int} {last most : Int}, ascB last most x = true → ∀ c ∈ x, last < c ∧ c < most
  | [], _, _, _, c, hc => by simp at hc
  | y :: x, last, most, h, c, hc => by
    unfold ascB at h
    simp only [Bool.and_eq_true, decide_eq_true_eq] at h
    obtain ⟨h1, h2, h3⟩ := h
    rcases List.mem_cons.mp hc with rfl | hc
    · exact ⟨h1, h2⟩
    · have := asc_bd h3 c hc; omega
theorem Cls.val {ws o : List Int} {os : List (List Int)} (h : Cls ws o os) {x : List Int} (hx : x ∈ o :: os) : Val ws.length x := fun c hc => by
  have := asc_bd (h.asc x hx) c hc; omega
theorem isrt_len (l : List Int) : (isrt l).length = l.length := by
  unfold isrt
  induction l with
  | nil => rfl
  | cons x l ih => rw [List.foldr_cons, (insI_perm x _).length_eq, List.length_cons, ih]; rfl
theorem upto_len (n : Nat) : (upto n).length = n := by simp [upto]
theorem Cls.flen {ws o : List Int} {os : List (List Int)} (h : Cls ws o os) : ((o :: os).flatten).length = ws.length := by
  rw [← isrt_len, h.srt, upto_len]
theorem Cls.sub {ws o : List Int} {os : List (List Int)} (h : Cls ws o os) {x : List Int} (hx : x ∈ o :: os) : x.length ≤ 3 := by
  have h1 := h.flen
  have h2 : x.Sublist ((o :: os).flatten) := List.sublist_flatten_of_mem hx
  have := h2.length_le
  have := h.n3
  omega
theorem flat_ge : ∀ os : List (List Int), [] ∉ os → os.length ≤ os.flatten.length
  | [], _ => by simp
  | x :: os, h => by
    have ih := flat_ge os (fun z => h (List.mem_cons_of_mem _ z))
    have : x ≠ [] := fun z => h (by simp [z])
    have : 0 < x.length := List.length_pos_iff.mpr this
    simp only [List.length_cons, List.flatten_cons, List.length_append]
    omega
theorem Cls.olen {ws o : List Int} {os : List (List Int)} (h : Cls ws o os) : os.length ≤ 3 := by
  have h1 := h.flen
  have h2 := flat_ge os h.ne
  have := h.n3
  simp only [List.flatten_cons, List.length_append] at h1
  omega
theorem flat_tI (os : List (List Int)) : (os.map tI).flatMap (fun d => match d with | .tuple ds => ds | _ => []) = nI os.flatten := by
  induction os with
  | nil => rfl
  | cons o os ih => simp only [List.map_cons, List.flatMap_cons, ih, List.flatten_cons, ← nI_app, tI]
end MR
end
section
set_option Elab.async false
set_option linter.all false
set_option maxRecDepth 100000
namespace MR
open PySem PySem.Spec PyProof.Rows L2 VL
theorem flat_lt (os : List (List Int)) (g : Int → PyData) : (os.map tI).flatMap (fun d => match d with | .tuple ds => ds.map (fun d => match d with | .int c => g c | d => d) | _ => []) = os.flatten.map g := by
  induction os with
  | nil => rfl
  | cons o os ih => simp only [List.map_cons, List.flatMap_cons, ih, List.flatten_cons, List.map_append, tI, nI, List.map_map]; rfl
theorem v_has_class_form (μ : Mu) {ws o : List Int} {os : List (List Int)} (h : Cls ws o os) : m_has_class_form μ [.d (.int ws.length), .d (cl ws (o :: os))] = some (.d (.bool true), μ) := by
  have n3 := h.n3
  have ol := h.olen
  have hfl := h.flen
  have r1 := v_is_row μ 2 [PyData.tuple (nI ws), PyData.tuple (PyData.tuple (nI o) :: os.map tI)] rfl
  have r2 := v_are_numbers μ (ws := ws) (n := ws.length) rfl (by omega) h.w
  have a0 : atI [PyData.tuple (nI ws), PyData.tuple (PyData.tuple (nI o) :: os.map tI)] 0 = some (.tuple (nI ws)) := atI0 _ _
  have e1 : ∀ (a b : Option Vw), VL.lcM (tNm 4) bYes q1_has_class_form none (PyData.tuple (nI o) :: os.map tI) (PyData.tuple (nI o) :: os.map tI) (wipeR [some (.d (.int ws.length)), a, b, some (.d (.tuple (PyData.tuple (nI o) :: os.map tI))), none, none] [4]) μ = some ((o :: os).map fun _ => PyData.bool true, μ) := fun a b => by
    show VL.lcM _ _ _ _ ((o :: os).map tI) ((o :: os).map tI) _ _ = _
    rw [lc_m (fun _ => .bool true) ((o :: os).map tI) (fun d hd => by
      obtain ⟨x, hx, rfl⟩ := List.mem_map.mp hd
      refine ⟨_, rfl, ?_⟩
      have := v_is_ascending μ (h.asc x hx)
      simp [q1_has_class_form, wipeR, tI, this])]
    simp
  have e2 : ∀ (a b c : Option Vw), VL.lcM2 (tNm 4) bYes (iSeq (eV 4)) (tNm 5) bYes q2_has_class_form [5] none (PyData.tuple (nI o) :: os.map tI) (PyData.tuple (nI o) :: os.map tI) (wipeR [a, b, c, some (.d (.tuple (PyData.tuple (nI o) :: os.map tI))), none, none] [4, 5]) μ = some (nI (o ++ os.flatten), μ) := fun a b c => by
    show VL.lcM2 _ _ _ _ _ _ _ _ ((o :: os).map tI) ((o :: os).map tI) _ _ = _
    rw [lc2_m (fun d => match d with | .tuple ds => ds | _ => []) ((o :: os).map tI) (fun d hd => by
      obtain ⟨x, hx, rfl⟩ := List.mem_map.mp hd
      refine ⟨_, nI x, rfl, ?_, ?_⟩
      · simp [wipeR, tI]
      · rw [lc_m (fun d => d) (nI x) (fun d hd => ⟨_, rfl, by simp [q2_has_class_form, wipeR]⟩)]
        simp [tI])]
    exact congrArg (fun z => some (z, μ)) (flat_tI (o :: os))
  have e3 : ∀ (a b : Option Vw), VL.lcM2 (tNm 4) bYes (iSeq (eV 4)) (tNm 5) bYes q3_has_class_form [5] none (os.map tI) (os.map tI) (wipeR [a, b, some (.d (.tuple (nI ws))), some (.d (.tuple (PyData.tuple (nI o) :: os.map tI))), none, none] [4, 5]) μ = some (os.flatten.map fun _ => PyData.bool true, μ) := fun a b => by
    rw [lc2_m (fun d => match d with | .tuple ds => ds.map (fun d => match d with | .int c => .bool true | d => d) | _ => []) (os.map tI) (fun d hd => by
      obtain ⟨x, hx, rfl⟩ := List.mem_map.mp hd
      refine ⟨_, nI x, rfl, ?_, ?_⟩
      · simp [wipeR, tI]
      · rw [lc_m (fun d => match d with | .int c => .bool true | d => d) (nI x) (fun d hd => by
          obtain ⟨c, hc, rfl⟩ := List.mem_map.mp hd
          obtain ⟨h0, h1⟩ := h.val (List.mem_cons_of_mem _ hx) c hc
          have ha := atI_int h0 h1
          have h4 := h.low x hx c hc
          refine ⟨_, rfl, ?_⟩
          simp [q3_has_class_form, wipeR, ha, h4])]
        simp [tI])]
    exact congrArg (fun z => some (z, μ)) (flat_lt os fun _ => .bool true)
  have hB1 := toB_true (o :: os)
  have hB0 := toB_true os
  have hB2 := toB_true os.flatten
  have l1 : os.length + 1 ≤ 1000000 := by omega
  have l2 : (o ++ os.flatten).length ≤ 1000000 := by have : (o ++ os.flatten).length = ws.length := hfl
                                                     omega
  have l3 : os.flatten.length ≤ 1000000 := by
    rw [List.length_append] at l2; omega
  have i1 := oIn_tL μ os
  have hn : decide ([] ∈ os) = false := decide_eq_false h.ne
  have hcut : VL.cutD (PyData.tuple (nI o) :: os.map tI) (some 1) none = os.map tI := cut1 _
  have hsrt := toI_nI (o ++ os.flatten)
  have hA : (os.all fun _ => true) = true := by simp
  have hA2 : (os.flatten.all fun _ => true) = true := by simp
  have q1 : oEq true μ (.d (.list ((isrt (o ++ os.flatten)).map PyData.int))) (.d (.list (rngD 0 ws.length))) = some (.d (.bool false)) := by
    have hs : isrt (o ++ os.flatten) = upto ws.length := h.srt
    rw [hs, rngD_nI]
    have p1 : (PyData.list (nI (upto ws.length))).plain = true := by simp [PyData.plain, plainA_nI]
    have := oEq_of (neg := true) (μ := μ) p1 p1 (by simp [PyData.depth, depthA_nI])
    simp only [PyData.eqv, eqvA_nI] at this
    simpa [nI] using this
  rw [hn] at i1
  have l4 : (0 : Int) ≤ (ws.length : Int) ∧ (ws.length : Int) ≤ 1000 := by omega
  generalize os.flatten = fl at e2 e3 hB2 hsrt l2 l3 q1 hA2
  have l2' : o.length + fl.length ≤ 1000000 := by simpa using l2
  simp [m_has_class_form, b_has_class_form, fnM, cl, tL, tI, r1, a0, r2, isaB, tyN, e1, hB0, l1, -oIn, -oEq, i1, hcut, hA, e2, hsrt, q1, l2', nI_len, l4, e3, hB2, l3, hA2]
theorem v_check_class (μ : Mu) {ws o : List Int} {os : List (List Int)} (h : Cls ws o os) : m_check_class μ [.d (cl ws (o :: os))] = some (.d .none, μ) := by
  have n0 := h.n0
  have n3 := h.n3
  have r1 := v_is_row μ 2 [PyData.tuple (nI ws), PyData.tuple (PyData.tuple (nI o) :: os.map tI)] rfl
  have a0 : atI [PyData.tuple (nI ws), PyData.tuple (PyData.tuple (nI o) :: os.map tI)] 0 = some (.tuple (nI ws)) := atI0 _ _
  have r3 : m_has_class_form μ [.d (.int ws.length), .d (.tuple [PyData.tuple (nI ws), PyData.tuple (PyData.tuple (nI o) :: os.map tI)])] = some (.d (.bool true), μ) := v_has_class_form μ h
  have r2 : m_is_some_row μ [.d (.tuple (nI ws))] = some (.d (.bool true), μ) := by
    have c1 : (1 : Int) ≤ (ws.length : Int) := by omega
    have c3 : (ws.length : Int) ≤ 3 := by omega
    simp [m_is_some_row, b_is_some_row, fnM, isaB, tyN, nI_len, c1, c3]
  simp [m_check_class, b_check_class, fnM, cl, tL, tI, r1, a0, r2, r3, nI_len]
/-- the corners behind the first one -/
def crs : List Int → List (List Int) → List (List Int)
  | _, [] => []
  | w, l :: ls => rz w l :: crs (rz w l) ls
def cornersP (ws : List Int) (os : List (List Int)) : List (List Int) := ws :: crs ws os.reverse
theorem v_corners_go (μ : Mu) (a b c : Option Vw) (all : List PyData) : ∀ (ls : List (List Int)) (acc : List PyData) (w : List Int) (q : Option Vw), w.length ≤ 1000 → acc.length + ls.length ≤ 1000 →
    ∃ q', VL.forM (tNm 4) w1_corners_of none all (ls.map tI) [a, b, c, some (.loc μ.length), q] (μ ++ [acc ++ [tI w]]) = some (.nx [a, b, c, some (.loc μ.length), q'] (μ ++ [acc ++ [tI w] ++ (crs w ls).map tI]))
  | [], acc, w, q, _, _ => ⟨q, by simp [VL.forM, srcOk_none, crs]⟩
  | l :: ls, acc, w, q, hw, hl => by
    simp only [List.length_cons] at hl
    obtain ⟨q', e⟩ := v_corners_go μ a b c all ls (acc ++ [tI w]) (rz w l) (some (.d (tI l))) (by rw [rz_len]; exact hw) (by simp; omega)
    refine ⟨q', ?_⟩
    have hr := v_raised (μ ++ [acc ++ [tI w]]) w l hw
    have a1 : atI (acc ++ [tI w]) (-1) = some (tI w) := by
      unfold atI ixN
      rw [if_neg (by omega), if_pos (by simp; omega)]
      have : (-1 + ((acc ++ [tI w]).length : Int)).toNat = acc.length := by simp; omega
      show (acc ++ [tI w])[(-1 + ((acc ++ [tI w]).length : Int)).toNat]? = _
      rw [this]; simp
    have l1 : acc.length + 1 < 1000000 := by omega
    simp [VL.forM, srcOk_none, w1_corners_of, a1, hr, l1]
    simp at e
    exact e
theorem v_corners_of (μ : Mu) {ws : List Int} (o : List Int) {os : List (List Int)} (hw : ws.length ≤ 1000) (hl : os.length ≤ 900) : m_corners_of μ [.d (cl ws (o :: os))] = some (.d (.tuple ((cornersP ws os).map tI)), μ) := by
  obtain ⟨q', e⟩ := v_corners_go μ (some (.d (.tuple [PyData.tuple (nI ws), PyData.tuple (PyData.tuple (nI o) :: os.map tI)]))) (some (.d (.tuple (nI ws)))) (some (.d (.tuple (PyData.tuple (nI o) :: os.map tI)))) (os.reverse.map tI) os.reverse [] ws none hw (by simp; omega)
  have hcut : VL.cutD (PyData.tuple (nI o) :: os.map tI) (some 1) none = os.map tI := cut1 _
  have hrev : (os.map tI).reverse = os.reverse.map tI := by rw [List.map_reverse]
  simp only [List.nil_append, tI] at e
  simp [m_corners_of, b_corners_of, fnM, cl, tL, tI, hcut, -List.map_reverse, hrev, e]
  rfl
end MR
end
section
set_option Elab.async false
set_option linter.all false
set_option maxRecDepth 100000
namespace MR
open PySem PySem.Spec PyProof.Rows L2 VL
theorem lcE {α : Type} {t : TF} {tt : BF} {fe : EF} {all : List PyData} {ρ : Rho} {μ : Mu} (enc : α → PyData) (b : α → Bool) (g : α → PyData) : ∀ l : List α, (∀ x ∈ l, ∃ ρ1, t (.d (enc x)) ρ = some ρ1 ∧ tt ρ1 μ = some (b x, μ) ∧ (b x = true → fe ρ1 μ = some (.d (g x), μ))) → VL.lcM t tt fe none all (l.map enc) ρ μ = some ((l.filter b).map g, μ)
  | [], _ => by simp [VL.lcM, srcOk_none]
  | d :: ds, h => by
    obtain ⟨ρ1, e1, e2, e3⟩ := h d (by simp)
    have ih := lcE (t := t) (tt := tt) (fe := fe) (all := all) (ρ := ρ) (μ := μ) enc b g ds fun x hx => h x (List.mem_cons_of_mem _ hx)
    cases hb : b d with
    | true => simp [VL.lcM, srcOk_none, e1, e2, e3 hb, ih, hb]
    | false => simp [VL.lcM, srcOk_none, e1, e2, ih, hb]
theorem lcE0 {α : Type} {t : TF} {fe : EF} {all : List PyData} {ρ : Rho} {μ : Mu} (enc : α → PyData) (g : α → PyData) (l : List α) (h : ∀ x ∈ l, ∃ ρ1, t (.d (enc x)) ρ = some ρ1 ∧ fe ρ1 μ = some (.d (g x), μ)) : VL.lcM t bYes fe none all (l.map enc) ρ μ = some (l.map g, μ) := by
  have := lcE (t := t) (tt := bYes) (fe := fe) (all := all) (ρ := ρ) (μ := μ) enc (fun _ => true) g l fun x hx => by
    obtain ⟨ρ1, e1, e2⟩ := h x hx
    exact ⟨ρ1, e1, rfl, fun _ => e2⟩
  rw [this, List.filter_eq_self.mpr (fun _ _ => rfl)]
theorem lc2E {α : Type} {t : TF} {fi1 : IF} {t1 : TF} {fe : EF} {vs1 : List Nat} {all : List PyData} {ρ : Rho} {μ : Mu} (enc : α → PyData) (f : α → List PyData) : ∀ l : List α, (∀ x ∈ l, ∃ ρ1 ds1, t (.d (enc x)) ρ = some ρ1 ∧ fi1 ρ1 μ = some (ds1, none, μ) ∧ VL.lcM t1 bYes fe none ds1 ds1 (wipeR ρ1 vs1) μ = some (f x, μ)) → VL.lcM2 t bYes fi1 t1 bYes fe vs1 none all (l.map enc) ρ μ = some (l.flatMap f, μ)
  | [], _ => by simp [VL.lcM2, srcOk_none]
  | d :: ds, h => by
    obtain ⟨ρ1, ds1, e1, e2, e3⟩ := h d (by simp)
    have ih := lc2E (t := t) (fi1 := fi1) (t1 := t1) (fe := fe) (vs1 := vs1) (all := all) (ρ := ρ) (μ := μ) enc f ds fun x hx => h x (List.mem_cons_of_mem _ hx)
    simp [VL.lcM2, srcOk_none, e1, e2, e3, ih]
inductive Mv where
  | w
  | d (lot : List Int)
def mvD : Mv → PyData
  | .w => wt
  | .d lot => dr lot
def ks : Mv → List Int
  | .w => [0, 1]
  | .d _ => [0]
def nx (c : List Int) : Mv → Int → List Int
  | .w, k => c.map (· + k)
  | .d lot, _ => zr c lot
theorem kE (l : List Int) : l.map PyData.int = nI l := rfl
def prD (p : Nat × Int) : PyData := .tuple [.int (p.1 : Nat), .int p.2]
def prs (n : Nat) (mv : Mv) : List (Nat × Int) := (List.range n).flatMap fun i => (ks mv).map fun k => (i, k)
def gdl (gs : List (List Int)) (i : Nat) : List Int := gs.getD i []
def ldP (c : List Int) (mv : Mv) (gs : List (List Int)) : List (Nat × Int) := (prs gs.length mv).filter fun p => decide (nx c mv p.2 = gdl gs p.1)
theorem rngD_map (n : Nat) : rngD 0 n = (List.range n).map fun (i : Nat) => PyData.int (i : Int) := by
  simp only [rngD]
  refine List.map_congr_left fun i _ => ?_
  simp
theorem prs_map (n : Nat) (mv : Mv) : (List.range n).flatMap (fun i => (ks mv).map fun k => PyData.tuple [.int (i : Nat), .int k]) = (prs n mv).map prD := by
  simp only [prs, List.map_flatMap, List.map_map]
  rfl
theorem prs_lt {n : Nat} {mv : Mv} {p : Nat × Int} (h : p ∈ prs n mv) : p.1 < n := by
  obtain ⟨i, hi, h2⟩ := List.mem_flatMap.mp h
  obtain ⟨k, _, rfl⟩ := List.mem_map.mp h2
  simpa using hi
theorem prs_len (n : Nat) (mv : Mv) : (prs n mv).length ≤ 2 * n := by
  have : ∀ l : List Nat, (l.flatMap fun i => (ks mv).map fun k => (i, k)).length ≤ 2 * l.length := fun l => by
    induction l with
    | nil => simp
    | cons x l ih =>
      have : ((ks mv).map fun k => (x, k)).length ≤ 2 := by cases mv <;> simp [ks]
      simp only [List.flatMap_cons, List.length_append, List.length_cons]
      omega
  have := this (List.range n)
  simpa [prs] using this
/-- the moved class -/
def mvP (ws o : List Int) (os : List (List Int)) : Mv → PyData
  | .w => behP ws o os
  | .d lot => putP ws o os lot
structure MvOk (ws o : List Int) (os : List (List Int)) (mv : Mv) : Prop where
  w : mv = .w → behP ws o os ≠ .none
  d : ∀ lot, mv = .d lot → ascB (-1) ws.length lot = true ∧ lot.length ≤ 1000
theorem crs_len : ∀ (ls : List (List Int)) (w : List Int), ∀ x ∈ crs w ls, x.length = w.length
  | [], _, x, hx => by simp [crs] at hx
  | l :: ls, w, x, hx => by
    unfold crs at hx
    rcases List.mem_cons.mp hx with rfl | hx
    · exact rz_len w l
    · rw [crs_len ls _ x hx, rz_len]
theorem cornersP_len {ws : List Int} {os : List (List Int)} {x : List Int} (hx : x ∈ cornersP ws os) : x.length = ws.length := by
  rcases List.mem_cons.mp hx with rfl | hx
  · rfl
  · exact crs_len _ _ x hx
theorem crs_n : ∀ (ls : List (List Int)) (w : List Int), (crs w ls).length = ls.length
  | [], _ => rfl
  | l :: ls, w => by simp [crs, crs_n ls]
theorem cornersP_n (ws : List Int) (os : List (List Int)) : (cornersP ws os).length = os.length + 1 := by simp [cornersP, crs_n]
def leadsP (ws : List Int) (os : List (List Int)) (mv : Mv) (gs : List (List Int)) : List (List (Nat × Int)) := (cornersP ws os).map fun c => ldP c mv gs
def lsD (l : List (List (Nat × Int))) : List PyData := l.map fun q => .tuple (q.map prD)
end MR
end
section
set_option Elab.async false
set_option linter.all false
set_option maxRecDepth 100000
namespace MR
open PySem PySem.Spec PyProof.Rows L2 VL
def gdq (ld : List (List (Nat × Int))) (i : Nat) : List (Nat × Int) := ld.getD i []
def bkP (ld : List (List (Nat × Int))) (k : Nat) : List Nat := (List.range ld.length).filter fun i => decide (k ∈ (gdq ld i).map (·.1))
def natD (i : Nat) : PyData := .int (i : Int)
theorem atI_lsD {ld : List (List (Nat × Int))} {i : Nat} (h : i < ld.length) : atI (lsD ld) (i : Int) = some (.tuple ((gdq ld i).map prD)) := by
  rw [atI_nat _ _ (by simpa [lsD] using h)]
  simp [lsD, h, gdq]
theorem mem_nat (k : Nat) (l : List Nat) : decide ((k : Int) ∈ l.map (fun (i : Nat) => (i : Int))) = decide (k ∈ l) := by
  congr 1
  simp
  constructor
  · rintro ⟨a, h, e⟩
    have : a = k := by omega
    subst this; exact h
  · intro h; exact ⟨k, h, rfl⟩
theorem firsts_nI (q : List (Nat × Int)) : q.map (fun p => PyData.int (p.1 : Int)) = nI ((q.map (·.1)).map fun (i : Nat) => (i : Int)) := by
  simp [nI]
theorem plain_list_nI (l : List Int) : (PyData.list (nI l)).plain = true := by simp [PyData.plain, plainA_nI]
theorem oIn_lst (neg : Bool) (μ : Mu) (x : Int) (l : List Int) : oIn neg μ (.d (.int x)) (.d (.list (nI l))) = some (.d (.bool (if neg then !decide (x ∈ l) else decide (x ∈ l)))) := by
  simp only [oIn, toD, plainA_nI, depthA_nI, mem_nI]
  simp [PyData.plain, PyData.depth]
theorem v_from0 (μ : Mu) {k m : Nat} (h : k ≤ m) (hm : m ≤ 1000) : m_is_from_to μ [.d (.int k), .d (.int 0), .d (.int m)] = some (.d (.bool true), μ) := by
  have a1 : (-999999999999999999999999999999999999999999999999999999999999 : Int) ≤ (k : Int) := by omega
  have a2 : (k : Int) ≤ 999999999999999999999999999999999999999999999999999999999999 := by omega
  have a3 : (0 : Int) ≤ (k : Int) := by omega
  have a4 : (k : Int) ≤ (m : Int) := by omega
  simp [m_is_from_to, b_is_from_to, m_is_number, b_is_number, fnM, isaB, tyN, a1, a2, a4]
end MR
end
section
set_option Elab.async false
set_option linter.all false
set_option maxRecDepth 100000
namespace MR
open PySem PySem.Spec PyProof.Rows L2 VL
theorem enE (ws : List Int) : enumD (nI ws) = (List.range ws.length).map fun (i : Nat) => PyData.tuple [.int (i : Nat), .int (gd ws i)] := by
  apply List.ext_getElem
  · simp [enumD, nI]
  · intro i h1 h2
    have hi : i < ws.length := by simpa [enumD, nI] using h1
    simp [enumD, nI, gd, hi]
/-- one more for the clocks of a lot, as the law says it -/
theorem lc_rz {μ : Mu} {ρ : Rho} {fe : EF} {u v : Nat} {all : List PyData} (ws lot : List Int) (h : ∀ i : Nat, i < ws.length → ∃ ρ1, (tTp (lCons (tNm u) (lCons (tNm v) lNil))) (.d (.tuple [.int (i : Nat), .int (gd ws i)])) ρ = some ρ1 ∧ fe ρ1 μ = some (.d (.int (gd ws i + (if (i : Int) ∈ lot then 1 else 0))), μ)) :
    VL.lcM (tTp (lCons (tNm u) (lCons (tNm v) lNil))) bYes fe none all (enumD (nI ws)) ρ μ = some (nI (rz ws lot), μ) := by
  rw [enE, lcE0 (fun (i : Nat) => PyData.tuple [.int (i : Nat), .int (gd ws i)]) (fun i => .int (gd ws i + (if (i : Int) ∈ lot then 1 else 0))) (List.range ws.length) (fun i hi => h i (by simpa using hi))]
  simp only [nI, rz, List.map_map]
  refine congrArg (fun z => some (z, μ)) (List.map_congr_left fun i _ => ?_)
  by_cases h : (i : Int) ∈ lot <;> simp [h]
theorem any4 (ws : List Int) (o : List Int) : decide ((4 : Int) ∈ o.map fun c => gd ws c.toNat) = o.any fun c => decide (gd ws c.toNat = 4) := by
  induction o with
  | nil => rfl
  | cons c o ih =>
    simp only [List.map_cons, List.any_cons, ← ih]
    by_cases h : gd ws c.toNat = 4
    · simp [h]
    · have : ¬ 4 = gd ws c.toNat := fun z => h z.symm
      simp [h, this]
theorem lc_nI {α : Type} {t : TF} {fe : EF} {all : List PyData} {ρ : Rho} {μ : Mu} (enc : α → PyData) (g : α → Int) (l : List α) (h : ∀ x ∈ l, ∃ ρ1, t (.d (enc x)) ρ = some ρ1 ∧ fe ρ1 μ = some (.d (.int (g x)), μ)) : VL.lcM t bYes fe none all (l.map enc) ρ μ = some (nI (l.map g), μ) := by
  rw [lcE0 enc (fun x => .int (g x)) l h]
  simp [nI]
theorem oEq_nil (neg : Bool) (μ : Mu) (o : List Int) : oEq neg μ (.d (.tuple (nI o))) (.d (.tuple [])) = some (.d (.bool (if neg then !decide (o = []) else decide (o = [])))) := by
  have q := oEq_of (neg := neg) (μ := μ) (plain_tI o) (plain_tI []) (by rw [depth_tI]; decide)
  rw [eqv_tI] at q
  exact q
structure MvOk2 (ws o : List Int) (os : List (List Int)) (mv : Mv) : Prop extends MvOk ws o os mv where
  s : ∀ lot, mv = .d lot → lot.length ≤ 50 ∧ isrt ((o.filter fun c => !decide (c ∈ lot)) ++ lot) = usrt (o ++ lot)
/-! ### the law's corners -/
theorem v_ext (μ : Mu) (a b c d e f g : Option Vw) (k : Nat) (all : List PyData) : ∀ (ls : List (List Int)) (acc : List Int) (q : Option Vw) (μ1 : Mu), μ1.length = k → acc.length + ls.flatten.length ≤ 1000 →
    ∃ q', VL.forM (tNm 6) w1__law_co_corners none all (ls.map tI) [a, b, c, d, e, some (.loc k), q, f, g] (μ1 ++ [nI acc]) = some (.nx [a, b, c, d, e, some (.loc k), q', f, g] (μ1 ++ [nI (acc ++ ls.flatten)]))
  | [], acc, q, μ1, hk, _ => ⟨q, by simp [VL.forM, srcOk_none]⟩
  | l :: ls, acc, q, μ1, hk, hl => by
    simp only [List.flatten_cons, List.length_append] at hl
    obtain ⟨q', e⟩ := v_ext μ a b c d e f g k all ls (acc ++ l) (some (.d (tI l))) μ1 hk (by simp only [List.length_append]; omega)
    refine ⟨q', ?_⟩
    have l1 : acc.length + l.length ≤ 1000000 := by omega
    subst hk
    rw [List.flatten_cons, ← List.append_assoc, ← e]
    simp [VL.forM, srcOk_none, w1__law_co_corners, tI, nI_len, l1, nI_app]
end MR
end
section
set_option Elab.async false
set_option linter.all false
set_option maxRecDepth 100000
namespace MR
open PySem PySem.Spec PyProof.Rows L2 VL
theorem cutk (xs : List PyData) (k : Nat) (hk : k ≤ xs.length) : VL.cutD xs (some (k : Int)) none = xs.drop k := by
  unfold VL.cutD
  rw [HT.sIx_nat, HT.sIx_none, Nat.min_eq_left hk]
  exact List.take_of_length_le (by simp)
def upP (os : List (List Int)) (m : Nat) : List Int := (os.drop (os.length - m)).flatten
theorem drop_flat_le (os : List (List Int)) (m : Nat) : ((os.drop m).flatten).length ≤ os.flatten.length := by
  have h : os.flatten = (os.take m).flatten ++ (os.drop m).flatten := by rw [← List.flatten_append, List.take_append_drop]
  rw [h, List.length_append]; omega
theorem v_cc_go (μ : Mu) (a : Option Vw) (ws : List Int) (os : List (List Int)) (all : List PyData) (hw : ws.length ≤ 1000) (ho : os.length ≤ 500) (hf : os.flatten.length ≤ 1000) : ∀ (l : List Nat) (acc : List (List Int)) (cells : List (List PyData)) (q4 q5 q6 : Option Vw), (∀ m ∈ l, m ≤ os.length) → acc.length + l.length ≤ 1000 →
    ∃ q4' q5' q6' cells', VL.forM (tNm 4) w3__law_co_corners none all (l.map fun (m : Nat) => PyData.int (m : Int)) [a, some (.d (.tuple (nI ws))), some (.d (.tuple (os.map tI))), some (.loc μ.length), q4, q5, q6, none, none] (μ ++ (acc.map tI :: cells)) =
      some (.nx [a, some (.d (.tuple (nI ws))), some (.d (.tuple (os.map tI))), some (.loc μ.length), q4', q5', q6', none, none] (μ ++ ((acc ++ l.map fun m => rz ws (upP os m)).map tI :: cells')))
  | [], acc, cells, q4, q5, q6, _, _ => ⟨q4, q5, q6, cells, by simp [VL.forM, srcOk_none]⟩
  | m :: l, acc, cells, q4, q5, q6, hm, hl => by
    have hm1 := hm m (by simp)
    simp only [List.length_cons] at hl
    have hk : (os.length : Int) - (m : Int) = ((os.length - m : Nat) : Int) := by omega
    have hcut := cutk (os.map tI) (os.length - m) (by simp)
    rw [← List.map_drop] at hcut
    obtain ⟨q6', e1⟩ := v_ext μ a (some (.d (.tuple (nI ws)))) (some (.d (.tuple (os.map tI)))) (some (.loc μ.length)) (some (.d (.int (m : Int)))) none none (μ.length + (cells.length + 1)) ((os.drop (os.length - m)).map tI) (os.drop (os.length - m)) [] q6 (μ ++ (acc.map tI :: cells)) (by simp) (by have := drop_flat_le os (os.length - m); simp only [List.length_nil]; omega)
    have e2 : ∀ (b c d e f : Option Vw), VL.lcM (tTp (lCons (tNm 7) (lCons (tNm 8) lNil))) bYes q2__law_co_corners none (enumD (nI ws)) (enumD (nI ws)) (wipeR [b, some (.d (.tuple (nI ws))), c, d, e, some (.loc (μ.length + (cells.length + 1))), f, none, none] [7, 8]) (μ ++ (acc.map tI :: (cells ++ [nI (upP os m)]))) = some (nI (rz ws (upP os m)), μ ++ (acc.map tI :: (cells ++ [nI (upP os m)]))) := fun b c d e f => lc_rz ws _ fun i hi => by
      have i1 := oIn_lst false (μ ++ (acc.map tI :: (cells ++ [nI (upP os m)]))) i (upP os m)
      have i2 : oIn false (μ ++ (acc.map tI :: (cells ++ [nI (upP os m)]))) (.d (.int i)) (.loc (μ.length + (cells.length + 1))) = oIn false (μ ++ (acc.map tI :: (cells ++ [nI (upP os m)]))) (.d (.int i)) (.d (.list (nI (upP os m)))) := by
        simp only [oIn, toD]
        have : (μ ++ (acc.map tI :: (cells ++ [nI (upP os m)])))[μ.length + (cells.length + 1)]? = some (nI (upP os m)) := by
          rw [List.getElem?_append_right (by omega)]
          simp
        rw [this]
        rfl
      rw [i1] at i2
      refine ⟨_, rfl, ?_⟩
      by_cases h : (i : Int) ∈ upP os m
      · simp [q2__law_co_corners, wipeR, i2, h, -oIn]
      · simp [q2__law_co_corners, wipeR, i2, h, -oIn]
    obtain ⟨q4', q5', q6'', cells', e⟩ := v_cc_go μ a ws os all hw ho hf l (acc ++ [rz ws (upP os m)]) (cells ++ [nI (upP os m)]) (some (.d (.int (m : Int)))) (some (.loc (μ.length + (cells.length + 1)))) q6' (fun x hx => hm x (List.mem_cons_of_mem _ hx)) (by simp; omega)
    refine ⟨q4', q5', q6'', cells', ?_⟩
    simp only [List.nil_append, List.append_assoc, List.cons_append] at e1
    rw [show nI [] = [] from rfl, show (os.drop (os.length - m)).flatten = upP os m from rfl] at e1
    have l1 : (rz ws (upP os m)).length ≤ 1000000 := by rw [rz_len]; omega
    have l2 : acc.length < 1000000 := by omega
    have ha : acc ++ (m :: l).map (fun m => rz ws (upP os m)) = (acc ++ [rz ws (upP os m)]) ++ l.map (fun m => rz ws (upP os m)) := by simp
    rw [ha, ← e]
    simp [VL.forM, srcOk_none, w3__law_co_corners, hk, hcut, -List.map_drop, e1, e2, nI_len, l1, l2]
    rfl
def cornL (os : List (List Int)) (ws : List Int) : List (List Int) := (List.range os.length).map fun m => rz ws (upP os m)
theorem v_co_corners (μ : Mu) {ws : List Int} {os : List (List Int)} (hw : ws.length ≤ 1000) (ho : os.length ≤ 500) (hf : os.flatten.length ≤ 1000) : m__law_co_corners μ [.d (.tuple [.tuple (nI ws), .tuple (os.map tI)])] = some (.d (.list ((cornL os ws).map tI)), μ) := by
  obtain ⟨q4, q5, q6, cells, e⟩ := v_cc_go μ (some (.d (.tuple [.tuple (nI ws), .tuple (os.map tI)]))) ws os (rngD 0 os.length) hw ho hf (List.range os.length) [] [] none none none (fun m hm => by have := List.mem_range.mp hm; omega) (by simp; omega)
  rw [← rngD_map] at e
  have hr := rg_of (n := os.length) (by omega)
  simp only [List.nil_append, List.map_nil] at e
  have e' : ∀ x, VL.forM (tNm 4) w3__law_co_corners none (rngD 0 os.length) (rngD 0 os.length) x (μ ++ [[]]) = VL.forM (tNm 4) w3__law_co_corners none (rngD 0 os.length) (rngD 0 os.length) x (μ ++ [[]]) := fun _ => rfl
  simp [m__law_co_corners, b__law_co_corners, fnM, hr, e, cornL]
end MR
end
section
set_option Elab.async false
set_option linter.all false
set_option maxRecDepth 100000
namespace MR
open PySem PySem.Spec PyProof.Rows L2 VL
theorem enL (gs : List (List Int)) : enumD (gs.map tI) = (List.range gs.length).map fun (i : Nat) => PyData.tuple [.int (i : Nat), tI (gdl gs i)] := by
  apply List.ext_getElem
  · simp [enumD]
  · intro i h1 h2
    have hi : i < gs.length := by simpa [enumD] using h1
    simp [enumD, gdl, hi]
def selP (c : List Int) (mv : Mv) (gs : List (List Int)) (k : Int) : List (Nat × Int) := ((List.range gs.length).filter fun i => decide (gdl gs i = nx c mv k)).map fun i => (i, k)
theorem selP_len (c : List Int) (mv : Mv) (gs : List (List Int)) (k : Int) : (selP c mv gs k).length ≤ gs.length := by
  have := List.length_filter_le (fun i => decide (gdl gs i = nx c mv k)) (List.range gs.length)
  simpa [selP] using this
end MR
end
section
set_option Elab.async false
set_option linter.all false
set_option maxRecDepth 100000
namespace MR
open PySem PySem.Spec PyProof.Rows L2 VL
def ptI (p : Nat × Int) : Int × Int := ((p.1 : Int), p.2)
theorem toP_prD : ∀ l : List (Nat × Int), toP (l.map prD) = some (l.map ptI)
  | [] => rfl
  | p :: l => by
    have := toP_prD l
    simp [prD, this, ptI]
def hereP (c : List Int) (mv : Mv) (gs : List (List Int)) : List (Nat × Int) := (ks mv).flatMap fun k => selP c mv gs k
def leadD (c : List Int) (mv : Mv) (gs : List (List Int)) : PyData := .tuple ((psrt ((hereP c mv gs).map ptI)).map pD)
theorem psrt_len (l : List (Int × Int)) : (psrt l).length = l.length := by
  unfold psrt
  induction l with
  | nil => rfl
  | cons x l ih => rw [List.foldr_cons, (insP_perm x _).length_eq, List.length_cons, ih]; rfl
end MR
end
section
set_option Elab.async false
set_option linter.all false
set_option maxRecDepth 100000
namespace MR
open PySem PySem.Spec PyProof.Rows L2 VL
theorem cornL_len {os : List (List Int)} {ws x : List Int} (hx : x ∈ cornL os ws) : x.length = ws.length := by
  obtain ⟨m, _, rfl⟩ := List.mem_map.mp hx
  exact rz_len _ _
theorem cornL_n (os : List (List Int)) (ws : List Int) : (cornL os ws).length = os.length := by simp [cornL]
/-! ### the two sides are the same -/
theorem psrt4 (n : Nat) (hn : n ≤ 4) (f g : Nat → Bool) (two : Bool) : psrt ((((List.range n).filter f).map (fun (i : Nat) => ((i : Int), (0 : Int)))) ++ (if two then ((List.range n).filter g).map (fun (i : Nat) => ((i : Int), (1 : Int))) else [])) = (((List.range n).flatMap fun i => if two then [(i, (0 : Int)), (i, 1)] else [(i, 0)]).filter fun p => if p.2 = 0 then f p.1 else g p.1).map ptI := by
  have key : ∀ n, n ≤ 4 → ∀ a0 a1 a2 a3 b0 b1 b2 b3 two : Bool, psrt ((((List.range n).filter fun i => [a0, a1, a2, a3].getD i false).map (fun (i : Nat) => ((i : Int), (0 : Int)))) ++ (if two then ((List.range n).filter fun i => [b0, b1, b2, b3].getD i false).map (fun (i : Nat) => ((i : Int), (1 : Int))) else [])) = (((List.range n).flatMap fun i => if two then [(i, (0 : Int)), (i, 1)] else [(i, 0)]).filter fun p => if p.2 = 0 then [a0, a1, a2, a3].getD p.1 false else [b0, b1, b2, b3].getD p.1 false).map ptI := by
    decide +kernel
  have e1 : ∀ (f : Nat → Bool) (i : Nat), i < n → [f 0, f 1, f 2, f 3].getD i false = f i := fun f i hi => by
    have : i = 0 ∨ i = 1 ∨ i = 2 ∨ i = 3 := by omega
    rcases this with rfl | rfl | rfl | rfl <;> rfl
  have k := key n hn (f 0) (f 1) (f 2) (f 3) (g 0) (g 1) (g 2) (g 3) two
  have c1 : ∀ f : Nat → Bool, ((List.range n).filter fun i => [f 0, f 1, f 2, f 3].getD i false) = (List.range n).filter f := fun f => List.filter_congr fun i hi => e1 f i (List.mem_range.mp hi)
  rw [c1 f, c1 g] at k
  rw [k]
  refine congrArg (List.map ptI) (List.filter_congr fun p hp => ?_)
  have hlt : p.1 < n := by
    obtain ⟨i, hi, h2⟩ := List.mem_flatMap.mp hp
    have := List.mem_range.mp hi
    cases two <;> simp at h2
    · subst h2; exact this
    · rcases h2 with rfl | rfl <;> exact this
  rw [e1 f _ hlt, e1 g _ hlt]
theorem pD_ptI (l : List (Nat × Int)) : (l.map ptI).map pD = l.map prD := by
  rw [List.map_map]; rfl
theorem dec_comm {α : Type} [DecidableEq α] (x y : α) : decide (x = y) = decide (y = x) := by
  by_cases h : x = y
  · subst h; rfl
  · have : ¬ y = x := fun z => h z.symm
    rw [decide_eq_false h, decide_eq_false this]
theorem selP_map (c : List Int) (mv : Mv) (gs : List (List Int)) (k : Int) : (selP c mv gs k).map ptI = ((List.range gs.length).filter fun i => decide (nx c mv k = gdl gs i)).map fun (i : Nat) => ((i : Int), k) := by
  unfold selP
  rw [List.map_map]
  have : (fun i => decide (gdl gs i = nx c mv k)) = fun i => decide (nx c mv k = gdl gs i) := by funext i; exact dec_comm _ _
  rw [this]
  rfl
theorem leadD_eq (c : List Int) (mv : Mv) (gs : List (List Int)) (hg : gs.length ≤ 4) : leadD c mv gs = .tuple ((ldP c mv gs).map prD) := by
  unfold leadD
  have key : psrt ((hereP c mv gs).map ptI) = (ldP c mv gs).map ptI := by
    cases mv with
    | w =>
      have := psrt4 gs.length hg (fun i => decide (nx c .w 0 = gdl gs i)) (fun i => decide (nx c .w 1 = gdl gs i)) true
      simp only [if_true] at this
      have hh : (hereP c .w gs).map ptI = ((List.range gs.length).filter fun i => decide (nx c .w 0 = gdl gs i)).map (fun (i : Nat) => ((i : Int), (0 : Int))) ++ ((List.range gs.length).filter fun i => decide (nx c .w 1 = gdl gs i)).map (fun (i : Nat) => ((i : Int), (1 : Int))) := by
        simp only [hereP, ks, List.flatMap_cons, List.flatMap_nil, List.append_nil, List.map_append, selP_map]
      rw [hh, this]
      unfold ldP prs
      refine congrArg (List.map ptI) ?_
      refine (List.filter_congr fun p hp => ?_)
      obtain ⟨i, hi, h2⟩ := List.mem_flatMap.mp hp
      simp at h2
      rcases h2 with rfl | rfl <;> simp
    | d lot =>
      have := psrt4 gs.length hg (fun i => decide (nx c (.d lot) 0 = gdl gs i)) (fun i => decide (nx c (.d lot) 1 = gdl gs i)) false
      simp only [Bool.false_eq_true, if_false, List.append_nil] at this
      have hh : (hereP c (.d lot) gs).map ptI = ((List.range gs.length).filter fun i => decide (nx c (.d lot) 0 = gdl gs i)).map (fun (i : Nat) => ((i : Int), (0 : Int))) := by
        simp only [hereP, ks, List.flatMap_cons, List.flatMap_nil, List.append_nil, selP_map]
      rw [hh, this]
      unfold ldP prs
      refine congrArg (List.map ptI) ?_
      refine (List.filter_congr fun p hp => ?_)
      obtain ⟨i, hi, h2⟩ := List.mem_flatMap.mp hp
      simp at h2
      subst h2
      simp
  rw [key, pD_ptI]
end MR
end
section
set_option Elab.async false
set_option linter.all false
set_option maxRecDepth 100000
namespace MR
open PySem PySem.Spec PyProof.Rows L2 VL
def sh1 : List (List (List Int)) := [[[0]], [[], [0]]]
def sh2 : List (List (List Int)) := [[[0], [1]], [[1], [0]], [[0, 1]], [[], [0], [1]], [[], [1], [0]], [[], [0, 1]]]
def sh3 : List (List (List Int)) := [[[0], [1], [2]], [[0], [2], [1]], [[0], [1, 2]], [[1], [0], [2]], [[1], [2], [0]], [[1], [0, 2]], [[2], [0], [1]], [[2], [1], [0]], [[2], [0, 1]], [[0, 1], [2]], [[0, 2], [1]], [[1, 2], [0]], [[0, 1, 2]], [[], [0], [1], [2]], [[], [0], [2], [1]], [[], [0], [1, 2]], [[], [1], [0], [2]], [[], [1], [2], [0]], [[], [1], [0, 2]], [[], [2], [0], [1]], [[], [2], [1], [0]], [[], [2], [0, 1]], [[], [0, 1], [2]], [[], [0, 2], [1]], [[], [1, 2], [0]], [[], [0, 1, 2]]]
def sh : Nat → List (List (List Int))
  | 1 => sh1
  | 2 => sh2
  | 3 => sh3
  | _ => []
def lots1 : List (List Int) := [[], [0]]
def lots2 : List (List Int) := [[], [0], [1], [0, 1]]
def lots3 : List (List Int) := [[], [0], [1], [2], [0, 1], [0, 2], [1, 2], [0, 1, 2]]
def lots : Nat → List (List Int)
  | 1 => lots1
  | 2 => lots2
  | 3 => lots3
  | _ => []
/-- the moved class: its lots, and its wholes -/
def sgP (s : List (List Int)) : Mv → List (List Int)
  | .w => (match s with
    | [] => []
    | o :: os => if o ≠ [] then [] :: o :: os else lastL o os :: os.dropLast)
  | .d lot => (match s with
    | [] => []
    | o :: os => isrt ((o.filter fun c => !decide (c ∈ lot)) ++ lot) :: (lf os lot).filter fun o => !o.isEmpty)
def wgP (ws : List Int) (s : List (List Int)) : Mv → List Int
  | .w => (match s with
    | [] => ws
    | o :: os => if o ≠ [] then ws else rz ws (lastL o os))
  | .d lot => zr ws lot
def zs (n : Nat) : List Int := List.replicate n 0
/-- where corners lead, of the class of which all wholes are 0 -/
def LP (n : Nat) (s : List (List Int)) (mv : Mv) : List (List (Nat × Int)) := leadsP (zs n) s.tail mv (cornersP (wgP (zs n) s mv) (sgP s mv).tail)
def mvs (n : Nat) : List Mv := .w :: (lots n).map .d
theorem sh_facts : ∀ n ∈ [1, 2, 3], ∀ s ∈ sh n, s ≠ [] ∧ (∀ x ∈ s, ascB (-1) n x = true) ∧ [] ∉ s.tail ∧ isrt s.flatten = upto n ∧ cornL s (zs n) = cornersP (zs n) s.tail ∧ s.length ≤ 4 := by decide +kernel
theorem mv_facts : ∀ n ∈ [1, 2, 3], ∀ s ∈ sh n, ∀ mv ∈ mvs n, sgP s mv ∈ sh n ∧ [] ∉ LP n s mv ∧ (∀ k ∈ List.range (sgP s mv).length, bkP (LP n s mv) k ≠ []) ∧ (LP n s mv).length = s.length ∧ ∀ q ∈ LP n s mv, q.length ≤ 100 := by decide +kernel
theorem lot_facts : ∀ n ∈ [1, 2, 3], ∀ s ∈ sh n, ∀ lot ∈ lots n, ascB (-1) n lot = true ∧ lot.length ≤ 50 ∧ isrt (((s.headD []).filter fun c => !decide (c ∈ lot)) ++ lot) = usrt (s.headD [] ++ lot) ∧ ∀ x ∈ (sgP s (.d lot)).tail, ∀ c ∈ x, c ∉ lot ∧ c ∈ s.tail.flatten := by decide +kernel
theorem wait_facts : ∀ n ∈ [1, 2, 3], ∀ s ∈ sh n, s.headD [] = [] → ∀ x ∈ (sgP s .w).tail, ∀ c ∈ x, c ∉ lastL (s.headD []) s.tail ∧ c ∈ s.tail.flatten := by decide +kernel
/-! ### it does not depend on the wholes -/
def ad (w v : List Int) : List Int := List.zipWith (· + ·) w v
theorem ad_len {w v : List Int} (h : w.length = v.length) : (ad w v).length = w.length := by simp [ad, h]
theorem gd_ad {w v : List Int} (h : w.length = v.length) {i : Nat} (hi : i < w.length) : gd (ad w v) i = gd w i + gd v i := by
  have h1 : i < v.length := by omega
  have h2 : i < (List.zipWith (fun a b : Int => a + b) w v).length := by simp; omega
  have e : (List.zipWith (fun a b : Int => a + b) w v)[i]? = some (w[i] + v[i]) := by
    rw [List.getElem?_eq_getElem h2]; simp
  simp only [gd, ad, List.getD_eq_getElem?_getD]
  rw [e, List.getElem?_eq_getElem hi, List.getElem?_eq_getElem h1]
  rfl
theorem gd_ext {a b : List Int} (hl : a.length = b.length) (h : ∀ i, i < a.length → gd a i = gd b i) : a = b := by
  apply List.ext_getElem hl
  intro i h1 h2
  have := h i h1
  simpa [gd, List.getD_eq_getElem?_getD, h1, h2] using this
theorem gd_rz {w : List Int} (l : List Int) {i : Nat} (hi : i < w.length) : gd (rz w l) i = if (i : Int) ∈ l then gd w i + 1 else gd w i := by
  have : (rz w l)[i]? = some (if (i : Int) ∈ l then gd w i + 1 else gd w i) := by simp [rz, hi]
  simp [gd, List.getD_eq_getElem?_getD] at this ⊢
  rw [this]; rfl
theorem gd_zr {w : List Int} (l : List Int) {i : Nat} (hi : i < w.length) : gd (zr w l) i = if (i : Int) ∈ l then 0 else gd w i := by
  have : (zr w l)[i]? = some (if (i : Int) ∈ l then 0 else gd w i) := by simp [zr, hi]
  simp [gd, List.getD_eq_getElem?_getD] at this ⊢
  rw [this]; rfl
theorem rz_ad {w v : List Int} (h : w.length = v.length) (l : List Int) : rz (ad w v) l = ad w (rz v l) := by
  have h2 : w.length = (rz v l).length := by rw [rz_len]; exact h
  refine gd_ext (by rw [rz_len, ad_len h, ad_len h2]) fun i hi => ?_
  rw [rz_len, ad_len h] at hi
  rw [gd_rz l (by rw [ad_len h]; exact hi), gd_ad h hi, gd_ad h2 hi, gd_rz l (by omega)]
  split <;> omega
theorem zr_ad {w v : List Int} (h : w.length = v.length) (l : List Int) : zr (ad w v) l = ad (zr w l) (zr v l) := by
  have h2 : (zr w l).length = (zr v l).length := by rw [zr_len, zr_len]; exact h
  refine gd_ext (by rw [zr_len, ad_len h, ad_len h2, zr_len]) fun i hi => ?_
  rw [zr_len, ad_len h] at hi
  rw [gd_zr l (by rw [ad_len h]; exact hi), gd_ad h hi, gd_ad h2 (by rw [zr_len]; exact hi), gd_zr l hi, gd_zr l (by omega)]
  split <;> omega
theorem ad_inj {w a b : List Int} (ha : w.length = a.length) (hb : w.length = b.length) (h : ad w a = ad w b) : a = b := by
  refine gd_ext (by omega) fun i hi => ?_
  have e : gd (ad w a) i = gd (ad w b) i := by rw [h]
  rw [gd_ad ha (by omega), gd_ad hb (by omega)] at e
  omega
theorem ad_zs (w : List Int) : ad w (zs w.length) = w := by
  have h : w.length = (zs w.length).length := by simp [zs]
  refine gd_ext (by rw [ad_len h]) fun i hi => ?_
  rw [ad_len h] at hi
  rw [gd_ad h hi]
  have : gd (zs w.length) i = 0 := by simp [gd, zs, List.getD_eq_getElem?_getD, hi]
  omega
theorem crs_ad {w : List Int} : ∀ (ls : List (List Int)) (v : List Int), w.length = v.length → crs (ad w v) ls = (crs v ls).map (ad w)
  | [], _, _ => rfl
  | l :: ls, v, h => by
    simp only [crs, List.map_cons]
    rw [rz_ad h, crs_ad ls (rz v l) (by rw [rz_len]; exact h)]
theorem cornersP_ad {w v : List Int} (h : w.length = v.length) (os : List (List Int)) : cornersP (ad w v) os = (cornersP v os).map (ad w) := by
  simp only [cornersP, List.map_cons]
  rw [crs_ad _ _ h]
theorem cornL_ad {w v : List Int} (h : w.length = v.length) (s : List (List Int)) : cornL s (ad w v) = (cornL s v).map (ad w) := by
  simp only [cornL, List.map_map]
  refine List.map_congr_left fun m _ => ?_
  exact rz_ad h _
theorem zs_len (n : Nat) : (zs n).length = n := by simp [zs]
theorem zr_zs (n : Nat) (lot : List Int) : zr (zs n) lot = zs n := by
  refine gd_ext (by rw [zr_len]) fun i hi => ?_
  rw [zr_len] at hi
  rw [gd_zr lot hi]
  have : gd (zs n) i = 0 := by rw [zs_len] at hi; simp [gd, zs, List.getD_eq_getElem?_getD, hi]
  rw [this]; split <;> rfl
theorem corn_eq {ws : List Int} {s : List (List Int)} (hn : ws.length ∈ [1, 2, 3]) (hs : s ∈ sh ws.length) : cornL s ws = cornersP ws s.tail := by
  have f := (sh_facts _ hn s hs).2.2.2.2.1
  have h : ws.length = (zs ws.length).length := by rw [zs_len]
  have e1 := cornL_ad h s
  have e2 := cornersP_ad h s.tail
  rw [ad_zs] at e1 e2
  rw [e1, e2, f]
theorem map_add (w v : List Int) (k : Int) : (ad w v).map (· + k) = ad w (v.map (· + k)) := by
  simp only [ad, List.map_zipWith, List.zipWith_map_right]
  congr 1
  funext a b
  omega
theorem gdl_map (f : List Int → List Int) (gs : List (List Int)) {i : Nat} (hi : i < gs.length) : gdl (gs.map f) i = f (gdl gs i) := by
  simp [gdl, List.getD_eq_getElem?_getD, hi]
theorem gdl_mem (gs : List (List Int)) {i : Nat} (hi : i < gs.length) : gdl gs i ∈ gs := by
  simp [gdl, List.getD_eq_getElem?_getD, hi]
theorem ldP_ad {w b v : List Int} {mv : Mv} {gs : List (List Int)} (hv : w.length = v.length) (hb : w.length = b.length) (hg : ∀ g ∈ gs, g.length = b.length) (hx : ∀ k, nx (ad w v) mv k = ad b (nx v mv k)) (hl : ∀ k, (nx v mv k).length = b.length) : ldP (ad w v) mv (gs.map (ad b)) = ldP v mv gs := by
  unfold ldP
  rw [List.length_map]
  refine List.filter_congr fun p hp => ?_
  have hlt := prs_lt hp
  rw [gdl_map _ _ hlt, hx]
  have hgl := hg _ (gdl_mem gs hlt)
  by_cases h : nx v mv p.2 = gdl gs p.1
  · rw [decide_eq_true h, decide_eq_true (by rw [h])]
  · rw [decide_eq_false h, decide_eq_false fun z => h (ad_inj (hl _).symm hgl.symm z)]
theorem leads_eq {ws : List Int} {s : List (List Int)} (mv : Mv) : leadsP ws s.tail mv (cornersP (wgP ws s mv) (sgP s mv).tail) = LP ws.length s mv := by
  have h : ws.length = (zs ws.length).length := by rw [zs_len]
  have e0 := cornersP_ad h s.tail
  rw [ad_zs] at e0
  unfold LP leadsP
  rw [e0, List.map_map]
  refine List.map_congr_left fun c hc => ?_
  have hcl := cornersP_len hc
  rw [zs_len] at hcl
  show ldP (ad ws c) mv _ = _
  cases mv with
  | w =>
    have ew : ∃ z, wgP ws s .w = ad ws z ∧ wgP (zs ws.length) s .w = z ∧ ws.length = z.length := by
      unfold wgP
      cases s with
      | nil => exact ⟨zs ws.length, (ad_zs ws).symm, rfl, h⟩
      | cons o os =>
        by_cases ho : o ≠ []
        · simp only [if_pos ho]; exact ⟨zs ws.length, (ad_zs ws).symm, rfl, h⟩
        · simp only [if_neg ho]
          refine ⟨rz (zs ws.length) (lastL o os), ?_, rfl, by rw [rz_len]; exact h⟩
          rw [← rz_ad h, ad_zs]
    obtain ⟨z, e1, e2, e3⟩ := ew
    rw [e1, e2, cornersP_ad e3]
    refine ldP_ad (by omega) rfl (fun g hg => by rw [cornersP_len hg]; exact e3.symm) (fun k => map_add ws c k) (fun k => by simp [nx]; exact hcl)
  | d lot =>
    have e1 : wgP ws s (.d lot) = ad (zr ws lot) (zs ws.length) := by
      have := ad_zs (zr ws lot)
      rw [zr_len] at this
      rw [this]; rfl
    have e2 : wgP (zs ws.length) s (.d lot) = zs ws.length := zr_zs _ _
    rw [e1, e2, cornersP_ad (by rw [zr_len]; exact h)]
    refine ldP_ad (by omega) (by rw [zr_len]) (fun g hg => by rw [cornersP_len hg, zs_len, zr_len]) (fun k => zr_ad (by omega) lot) (fun k => by simp only [nx, zr_len]; exact hcl)
end MR
end
section
set_option Elab.async false
set_option linter.all false
set_option maxRecDepth 100000
namespace MR
open PySem PySem.Spec PyProof.Rows L2 VL
structure G (ws : List Int) (s : List (List Int)) : Prop where
  hn : ws.length ∈ [1, 2, 3]
  hs : s ∈ sh ws.length
  hw : ∀ x ∈ ws, 0 ≤ x ∧ x ≤ 4
  hlow : ∀ x ∈ s.tail, ∀ c ∈ x, gd ws c.toNat < 4
theorem G.cls {ws o : List Int} {os : List (List Int)} (g : G ws (o :: os)) : Cls ws o os := by
  obtain ⟨f1, f2, f3, f4, f5, f6⟩ := sh_facts _ g.hn _ g.hs
  have hn := g.hn
  simp at hn
  exact ⟨by omega, by omega, g.hw, f2, f3, f4, g.hlow⟩
def no4 (ws o : List Int) : Prop := (o.any fun c => decide (gd ws c.toNat = 4)) = false
theorem gd_mem {ws : List Int} {i : Nat} (h : i < ws.length) : gd ws i ∈ ws := by simp [gd, List.getD_eq_getElem?_getD, h]
theorem mem_gd {ws : List Int} {x : Int} (h : x ∈ ws) : ∃ i, i < ws.length ∧ x = gd ws i := by
  obtain ⟨i, hi, e⟩ := List.getElem_of_mem h
  exact ⟨i, hi, by simp [gd, List.getD_eq_getElem?_getD, hi, e]⟩
def mvIn (n : Nat) : Mv → Prop
  | .w => True
  | .d lot => lot ∈ lots n
theorem mvIn_mem {n : Nat} {mv : Mv} (h : mvIn n mv) : mv ∈ mvs n := by
  cases mv with
  | w => exact List.mem_cons_self
  | d lot => exact List.mem_cons_of_mem _ (List.mem_map.mpr ⟨lot, h, rfl⟩)
theorem wg_len (ws : List Int) (s : List (List Int)) (mv : Mv) : (wgP ws s mv).length = ws.length := by
  unfold wgP
  cases mv with
  | w =>
    cases s with
    | nil => rfl
    | cons o os => simp only; split <;> simp [rz_len]
  | d lot => exact zr_len _ _
theorem G.all4 {ws o : List Int} {os : List (List Int)} (g : G ws (o :: os)) (h4 : no4 ws o) : ∀ x ∈ o :: os, ∀ c ∈ x, gd ws c.toNat < 4 := fun x hx c hc => by
  rcases List.mem_cons.mp hx with rfl | hx
  · have h1 := List.any_eq_false.mp h4 c hc
    have hv := g.cls.val (x := x) (by simp) c hc
    have := (g.hw _ (gd_mem (ws := ws) (i := c.toNat) (by omega))).2
    simp at h1
    omega
  · exact g.hlow x hx c hc
theorem G.step {ws o : List Int} {os : List (List Int)} {mv : Mv} (g : G ws (o :: os)) (h4 : mv = .w → no4 ws o) (hm : mvIn ws.length mv) : G (wgP ws (o :: os) mv) (sgP (o :: os) mv) := by
  have hs := (mv_facts _ g.hn _ g.hs mv (mvIn_mem hm)).1
  have hl := wg_len ws (o :: os) mv
  cases mv with
  | w =>
    have ha := g.all4 (h4 rfl)
    by_cases ho : o ≠ []
    · have e1 : wgP ws (o :: os) .w = ws := by simp only [wgP, if_pos ho]
      have e2 : sgP (o :: os) .w = [] :: o :: os := by simp only [sgP, if_pos ho]
      rw [e1, e2]
      rw [e2] at hs
      exact ⟨g.hn, hs, g.hw, ha⟩
    · have e1 : wgP ws (o :: os) .w = rz ws (lastL o os) := by simp only [wgP, if_neg ho]
      have wf := wait_facts _ g.hn _ g.hs (by simpa using ho)
      have hlast : lastL o os ∈ o :: os := List.getLast_mem _
      refine ⟨by rw [hl]; exact g.hn, by rw [hl]; exact hs, fun x hx => ?_, fun x hx c hc => ?_⟩
      · rw [e1] at hx
        obtain ⟨i, hi, rfl⟩ := mem_gd hx
        rw [rz_len] at hi
        rw [gd_rz _ hi]
        have := g.hw _ (gd_mem hi)
        split
        · rename_i hc
          have := ha _ hlast _ hc
          simp at this
          omega
        · exact this
      · obtain ⟨h1, h2⟩ := wf x hx c hc
        obtain ⟨y, hy, hcy⟩ := List.mem_flatten.mp h2
        have hv := g.cls.val (x := y) (List.mem_cons_of_mem _ hy) c hcy
        have h3 := g.hlow y hy c hcy
        rw [e1, gd_rz _ (by omega), if_neg]
        · exact h3
        · rw [Int.toNat_of_nonneg hv.1]; exact h1
  | d lot =>
    have lf := (lot_facts _ g.hn _ g.hs lot hm).2.2.2
    refine ⟨by rw [hl]; exact g.hn, by rw [hl]; exact hs, fun x hx => ?_, fun x hx c hc => ?_⟩
    · obtain ⟨i, hi, rfl⟩ := mem_gd hx
      rw [hl] at hi
      show 0 ≤ gd (zr ws lot) i ∧ gd (zr ws lot) i ≤ 4
      rw [gd_zr _ hi]
      have := g.hw _ (gd_mem hi)
      split
      · omega
      · exact this
    · obtain ⟨h1, h2⟩ := lf x hx c hc
      obtain ⟨y, hy, hcy⟩ := List.mem_flatten.mp h2
      have hv := g.cls.val (x := y) (List.mem_cons_of_mem _ hy) c hcy
      have h3 := g.hlow y hy c hcy
      show gd (zr ws lot) _ < 4
      rw [gd_zr _ (by omega), if_neg]
      · exact h3
      · rw [Int.toNat_of_nonneg hv.1]; exact h1
theorem G.beh {ws o : List Int} {os : List (List Int)} (g : G ws (o :: os)) (h4 : no4 ws o) : behP ws o os = cl (wgP ws (o :: os) .w) (sgP (o :: os) .w) := by
  unfold behP
  rw [if_neg (by rw [h4]; decide)]
  simp only [wgP, sgP]
  split <;> rfl
theorem G.mv {ws o : List Int} {os : List (List Int)} {mv : Mv} (g : G ws (o :: os)) (h4 : mv = .w → no4 ws o) : mvP ws o os mv = cl (wgP ws (o :: os) mv) (sgP (o :: os) mv) := by
  cases mv with
  | w => exact g.beh (h4 rfl)
  | d lot => rfl
theorem G.ok {ws o : List Int} {os : List (List Int)} {mv : Mv} (g : G ws (o :: os)) (h4 : mv = .w → no4 ws o) (hm : mvIn ws.length mv) : MvOk2 ws o os mv where
  w := fun e => by rw [g.beh (h4 e)]; intro z; cases z
  d := fun lot e => by
    subst e
    have := lot_facts _ g.hn _ g.hs lot hm
    exact ⟨this.1, by have := this.2.1; omega⟩
  s := fun lot e => by
    subst e
    have := lot_facts _ g.hn _ g.hs lot hm
    exact ⟨this.2.1, this.2.2.1⟩
end MR
end
section
set_option Elab.async false
set_option linter.all false
set_option maxHeartbeats 1000000
set_option exponentiation.threshold 30000
set_option maxRecDepth 100000
namespace MR
open PySem PySem.Spec PyProof.Rows L2 VL
/-! ### the dice -/
def Dice (μ : Mu) (n : Nat) : Prop := ∃ a b c : Int, μ[n]? = some [.int a, .int b, .int c]
def DU (μ : Mu) (n : Nat) (μ' : Mu) : Prop := ∃ a b c : Int, μ' = μ.set n [.int a, .int b, .int c]
theorem DU.dice {μ μ' : Mu} {n : Nat} (d : Dice μ n) (h : DU μ n μ') : Dice μ' n := by
  obtain ⟨a, b, c, h1⟩ := d
  obtain ⟨a', b', c', rfl⟩ := h
  exact ⟨a', b', c', List.getElem?_set_self (List.getElem?_eq_some_iff.mp h1).1⟩
theorem DU.trans {μ μ1 μ2 : Mu} {n : Nat} (h : DU μ n μ1) (h2 : DU μ1 n μ2) : DU μ n μ2 := by
  obtain ⟨a, b, c, rfl⟩ := h
  obtain ⟨a', b', c', rfl⟩ := h2
  exact ⟨a', b', c', by rw [List.set_set]⟩
theorem DU.len {μ μ' : Mu} {n : Nat} (h : DU μ n μ') : μ'.length = μ.length := by
  obtain ⟨a, b, c, rfl⟩ := h
  simp
theorem at30 (x y z : PyData) : atI [x, y, z] 0 = some x := rfl
theorem at31 (x y z : PyData) : atI [x, y, z] 1 = some y := rfl
theorem at32 (x y z : PyData) : atI [x, y, z] 2 = some z := rfl
theorem ix30 : ixN 3 0 = some 0 := rfl
theorem ix32 : ixN 3 2 = some 2 := rfl
theorem mul_lit1 (c : Int) : mulOk 71828177 c = true := mulOk_l (by decide)
theorem mul_lit2 (c : Int) : mulOk 89 c = true := mulOk_l (by decide)
theorem mul_lit3 (c : Int) : mulOk c 8128163 = true := mulOk_r (by decide)
theorem div_lit (c : Int) : divOk c 65579 = true := divOk_of (b := 20) (by decide) (by decide) (by decide)
theorem take_same (μ : Mu) (n : Nat) (l : List PyData) : (μ.set n l).take μ.length = μ.set n l := List.take_of_length_le (by simp)
theorem v_roll {μ : Mu} {n : Nat} (d : Dice μ n) {most : Int} (h0 : 0 < most) (h9 : most.natAbs < 2 ^ 8000) : ∃ r μ', 0 ≤ r ∧ r < most ∧ DU μ n μ' ∧ m__law_roll μ [.loc n, .d (.int most)] = some (.d (.int r), μ') := by
  obtain ⟨a, b, c, hd⟩ := d
  have hn : n < μ.length := (List.getElem?_eq_some_iff.mp hd).1
  have hd2 : μ[n] = [.int a, .int b, .int c] := (List.getElem?_eq_some_iff.mp hd).2
  have hm : ∀ x : Int, 0 ≤ x.fmod most ∧ x.fmod most < most := fun x => ⟨Int.fmod_nonneg_of_pos x h0, Int.fmod_lt_of_pos x h0⟩
  have hne : most ≠ 0 := by omega
  have hdv : ∀ x, divOk x most = true := fun x => divOk_of (b := 8000) hne h9 (by decide)
  by_cases c0 : 0 < a
  · refine ⟨a.fmod most, μ.set n [.int (a.fdiv most), .int b, .int c], (hm a).1, (hm a).2, ⟨_, _, _, rfl⟩, ?_⟩
    simp [m__law_roll, b__law_roll, fnM, hd2, at30, c0, hne, hdv, ix30, hn, take_same]
  · have q1 : ∀ x : Int, 0 ≤ x.fmod 2305843009213693421 ∧ x.fmod 2305843009213693421 < 2305843009213693421 := fun x => ⟨Int.fmod_nonneg_of_pos x (by decide), Int.fmod_lt_of_pos x (by decide)⟩
    have hsq : ∀ x : Int, mulOk (x.fmod 2305843009213693421) (x.fmod 2305843009213693421) = true := fun x => mulOk_l (by have := q1 x; omega)
    let one := (b + 71828177 * (c + 1)).fmod 2305843009213693421
    refine ⟨(((one * one + 89 * (c + 1)).fmod 2305843009213693381 * 8128163 + one).fdiv 65579).fmod most, μ.set n [.int a, .int b, .int (c + 1)], (hm _).1, (hm _).2, ⟨_, _, _, rfl⟩, ?_⟩
    simp [m__law_roll, b__law_roll, fnM, hd2, at30, at31, at32, c0, hne, hdv, ix32, hn, mul_lit1, mul_lit2, mul_lit3, div_lit, hsq, take_same, one]
theorem atI_get {ds : List PyData} {r : Int} (h0 : 0 ≤ r) (h1 : r < ds.length) : ∃ d, d ∈ ds ∧ atI ds r = some d := by
  obtain ⟨k, rfl⟩ := Int.eq_ofNat_of_zero_le h0
  have hl : k < ds.length := by omega
  exact ⟨ds[k], List.getElem_mem hl, by rw [MR.atI_nat _ _ hl]; simp [hl]⟩
theorem v_pick {μ : Mu} {n : Nat} (d : Dice μ n) {ds : List PyData} (h0 : ds ≠ []) (h9 : ds.length ≤ 1000) : ∃ p μ', p ∈ ds ∧ DU μ n μ' ∧ m__law_pick μ [.loc n, .d (.list ds)] = some (.d p, μ') := by
  have hl : 0 < ds.length := List.length_pos_iff.mpr h0
  obtain ⟨r, μ', r0, r1, du, e⟩ := v_roll d (most := ds.length) (by omega) (Nat.lt_of_le_of_lt (by simpa using h9) (by decide +kernel : 1000 < 2 ^ 8000))
  obtain ⟨p, hp, ep⟩ := atI_get r0 r1
  refine ⟨p, μ', hp, du, ?_⟩
  have := du.len
  simp [m__law_pick, b__law_pick, fnM, e, ep, ← this]

theorem DU.refl {μ : Mu} {n : Nat} (d : Dice μ n) : DU μ n μ := by
  obtain ⟨a, b, c, h⟩ := d
  refine ⟨a, b, c, ?_⟩
  have h1 := (List.getElem?_eq_some_iff.mp h)
  obtain ⟨h1, h2⟩ := h1
  rw [← h2, List.set_getElem_self]
/-- a comprehension that rolls the dice -/
theorem lcR {α : Type} {t : TF} {fe : EF} {all : List PyData} {ρ : Rho} {n : Nat} (enc : α → PyData) (R : α → Int → Prop) : ∀ (l : List α) (μ : Mu), Dice μ n → (∀ x ∈ l, ∀ μ, Dice μ n → ∃ ρ1 p μ2, t (.d (enc x)) ρ = some ρ1 ∧ fe ρ1 μ = some (.d (.int p), μ2) ∧ DU μ n μ2 ∧ R x p) →
    ∃ ps μ', VL.lcM t bYes fe none all (l.map enc) ρ μ = some (nI ps, μ') ∧ DU μ n μ' ∧ ps.length = l.length ∧ ∀ i, ∀ (h : i < l.length), R (l[i]) (gd ps i)
  | [], μ, d, _ => ⟨[], μ, by simp [VL.lcM, srcOk_none, nI], DU.refl d, rfl, fun i h => by simp at h⟩
  | x :: l, μ, d, h => by
    obtain ⟨ρ1, p, μ2, e1, e2, u1, r⟩ := h x (by simp) μ d
    obtain ⟨ps, μ', e, u, hl, hr⟩ := lcR (t := t) (fe := fe) (all := all) (ρ := ρ) enc R l μ2 (u1.dice d) fun y hy => h y (List.mem_cons_of_mem _ hy)
    refine ⟨p :: ps, μ', by simp [VL.lcM, srcOk_none, e1, e2, e, nI], u1.trans u, by simp [hl], fun i hi => ?_⟩
    cases i with
    | zero => exact r
    | succ i => exact hr i (by simpa using hi)
/-- what the dice pick -/
def pick {α : Type} (l : List α) (bs : List Bool) : List α := ((l.zip bs).filter (·.2)).map (·.1)
theorem lcT {α : Type} {t : TF} {tt : BF} {fe : EF} {all : List PyData} {ρ : Rho} {n : Nat} (enc : α → PyData) : ∀ (l : List α) (μ : Mu), Dice μ n → (∀ x ∈ l, ∀ μ, Dice μ n → ∃ ρ1 b μ2, t (.d (enc x)) ρ = some ρ1 ∧ tt ρ1 μ = some (b, μ2) ∧ DU μ n μ2 ∧ fe ρ1 μ2 = some (.d (enc x), μ2)) →
    ∃ bs μ', bs.length = l.length ∧ VL.lcM t tt fe none all (l.map enc) ρ μ = some ((pick l bs).map enc, μ') ∧ DU μ n μ'
  | [], μ, d, _ => ⟨[], μ, rfl, by simp [VL.lcM, srcOk_none, pick], DU.refl d⟩
  | x :: l, μ, d, h => by
    obtain ⟨ρ1, b, μ2, e1, e2, u1, e3⟩ := h x (by simp) μ d
    obtain ⟨bs, μ', hl, e, u⟩ := lcT (t := t) (tt := tt) (fe := fe) (all := all) (ρ := ρ) enc l μ2 (u1.dice d) fun y hy => h y (List.mem_cons_of_mem _ hy)
    refine ⟨b :: bs, μ', by simp [hl], ?_, u1.trans u⟩
    cases b
    · simp [VL.lcM, srcOk_none, e1, e2, e, pick]
    · simp [VL.lcM, srcOk_none, e1, e2, e3, e, pick]
theorem v_roll' {μ : Mu} {n : Nat} (d : Dice μ n) {most : Int} (h0 : 0 < most) (h9 : most ≤ 1000) : ∃ r μ', 0 ≤ r ∧ r < most ∧ DU μ n μ' ∧ m__law_roll μ [.loc n, .d (.int most)] = some (.d (.int r), μ') :=
  v_roll d h0 (Nat.lt_of_le_of_lt (show most.natAbs ≤ 1000 by omega) (by decide +kernel : 1000 < 2 ^ 8000))
theorem pick_lots : ∀ n ∈ [1, 2, 3], ∀ bs : List Bool, bs.length = n → pick (upto n) bs ∈ lots n := fun n hn bs hb => by
  have k1 : ∀ a : Bool, pick (upto 1) [a] ∈ lots 1 := by decide +kernel
  have k2 : ∀ a b : Bool, pick (upto 2) [a, b] ∈ lots 2 := by decide +kernel
  have k3 : ∀ a b c : Bool, pick (upto 3) [a, b, c] ∈ lots 3 := by decide +kernel
  simp at hn
  rcases hn with rfl | rfl | rfl
  · match bs, hb with
    | [a], _ => exact k1 a
  · match bs, hb with
    | [a, b], _ => exact k2 a b
  · match bs, hb with
    | [a, b, c], _ => exact k3 a b c
end MR
end
section
set_option Elab.async false
set_option linter.all false
set_option maxHeartbeats 1000000
set_option exponentiation.threshold 30000
set_option maxRecDepth 100000
namespace MR
open PySem PySem.Spec PyProof.Rows L2 VL
def lotOf (n : Nat) (rs : List Int) (k : Int) : List Int := (upto n).filter fun at_ => decide (gd rs at_.toNat = k)
def ordP (n : Nat) (rs : List Int) : List (List Int) := ((List.range n).map fun (i : Nat) => (1 : Int) + (i : Int)).filterMap fun k => if k ∈ rs then some (lotOf n rs k) else none
theorem ord_facts : ∀ n ∈ [1, 2, 3], ∀ rs : List Int, rs.length = n → (∀ x ∈ rs, 0 ≤ x ∧ x ≤ (n : Int)) → lotOf n rs 0 :: ordP n rs ∈ sh n := fun n hn rs hl hx => by
  have k1 : ∀ a ∈ [(0 : Int), 1], lotOf 1 [a] 0 :: ordP 1 [a] ∈ sh 1 := by decide +kernel
  have k2 : ∀ a ∈ [(0 : Int), 1, 2], ∀ b ∈ [(0 : Int), 1, 2], lotOf 2 [a, b] 0 :: ordP 2 [a, b] ∈ sh 2 := by decide +kernel
  have k3 : ∀ a ∈ [(0 : Int), 1, 2, 3], ∀ b ∈ [(0 : Int), 1, 2, 3], ∀ c ∈ [(0 : Int), 1, 2, 3], lotOf 3 [a, b, c] 0 :: ordP 3 [a, b, c] ∈ sh 3 := by decide +kernel
  simp only [List.mem_cons, List.not_mem_nil, or_false] at hn
  rcases hn with rfl | rfl | rfl
  · match rs, hl with
    | [a], _ =>
      have := hx a (by simp)
      exact k1 a (by simp; omega)
  · match rs, hl with
    | [a, b], _ =>
      have := hx a (by simp)
      have := hx b (by simp)
      exact k2 a (by simp; omega) b (by simp; omega)
  · match rs, hl with
    | [a, b, c], _ =>
      have := hx a (by simp)
      have := hx b (by simp)
      have := hx c (by simp)
      exact k3 a (by simp; omega) b (by simp; omega) c (by simp; omega)
theorem v_w7 (μ0 : Mu) (N : Nat) (hN : N ≤ 3) (a b : Option Vw) (rs : List Int) (hl : rs.length = N) (all : List PyData) : ∀ (l : List Int) (acc : List (List Int)) (q5 : Option Vw), acc.length + l.length ≤ 100 →
    ∃ q5', VL.forM (tNm 5) w7__law_co_class none all (nI l) [a, some (.d (.int N)), b, some (.d (.list (nI rs))), some (.loc μ0.length), q5, none, none] (μ0 ++ [acc.map tI]) =
      some (.nx [a, some (.d (.int N)), b, some (.d (.list (nI rs))), some (.loc μ0.length), q5', none, none] (μ0 ++ [(acc ++ l.filterMap fun k => if k ∈ rs then some (lotOf N rs k) else none).map tI]))
  | [], acc, q5, _ => ⟨q5, by simp [nI, VL.forM, srcOk_none]⟩
  | k :: l, acc, q5, hb => by
    simp only [List.length_cons] at hb
    have e1 : ∀ (a d e f g : Option Vw) (μ : Mu), VL.lcM (tNm 6) r5__law_co_class q6__law_co_class none (rngD 0 N) (rngD 0 N) (wipeR [a, d, e, some (.d (.list (nI rs))), f, some (.d (.int k)), none, none] [6]) μ = some (nI (lotOf N rs k), μ) := fun a d e f g μ => by
      rw [rngD_nI, ← kE, lcE PyData.int (fun c => decide (gd rs c.toNat = k)) PyData.int (upto N) (fun c hc => by
        obtain ⟨i, hi, rfl⟩ := List.mem_map.mp hc
        have hi := List.mem_range.mp hi
        have ha := atI_nI (ws := rs) (i := i) (by omega)
        refine ⟨_, rfl, ?_, fun _ => by simp [q6__law_co_class, wipeR]⟩
        simp [r5__law_co_class, wipeR, ha, PyData.plain, PyData.depth, PyData.eqv]
        rfl)]
      rfl
    have i1 := oIn_lst false (μ0 ++ [acc.map tI]) k rs
    have hr := rg_of (n := N) (by omega)
    have l1 : (lotOf N rs k).length ≤ 1000000 := by
      have := List.length_filter_le (fun c : Int => decide (gd rs c.toNat = k)) (upto N)
      rw [upto_len] at this
      unfold lotOf; omega
    have l2 : acc.length < 1000000 := by omega
    by_cases h : k ∈ rs
    · rw [decide_eq_true h] at i1
      obtain ⟨q5', e⟩ := v_w7 μ0 N hN a b rs hl all l (acc ++ [lotOf N rs k]) (some (.d (.int k))) (by simp; omega)
      refine ⟨q5', ?_⟩
      have ha : acc ++ (k :: l).filterMap (fun k => if k ∈ rs then some (lotOf N rs k) else none) = (acc ++ [lotOf N rs k]) ++ l.filterMap (fun k => if k ∈ rs then some (lotOf N rs k) else none) := by simp [h]
      rw [ha, ← e]
      have e1' := e1 a (some (.d (.int N))) b (some (.loc μ0.length)) none (μ0 ++ [acc.map tI])
      simp only [nI, List.map_cons] at i1 e1' ⊢
      simp [VL.forM, srcOk_none, w7__law_co_class, -oIn, i1, hr, e1', l2, l1]
      rfl
    · rw [decide_eq_false h] at i1
      obtain ⟨q5', e⟩ := v_w7 μ0 N hN a b rs hl all l acc (some (.d (.int k))) (by omega)
      refine ⟨q5', ?_⟩
      have ha : acc ++ (k :: l).filterMap (fun k => if k ∈ rs then some (lotOf N rs k) else none) = acc ++ l.filterMap (fun k => if k ∈ rs then some (lotOf N rs k) else none) := by simp [h]
      rw [ha, ← e]
      simp only [nI, List.map_cons] at i1 ⊢
      simp [VL.forM, srcOk_none, w7__law_co_class, -oIn, i1]
theorem v_co_class {μ : Mu} {n : Nat} (d : Dice μ n) {N : Nat} (hN : N ∈ [1, 2, 3]) : ∃ ws o os μ', m__law_co_class μ [.loc n, .d (.int N)] = some (.d (cl ws (o :: os)), μ') ∧ DU μ n μ' ∧ G ws (o :: os) := by
  have hN' := hN
  simp only [List.mem_cons, List.not_mem_nil, or_false] at hN'
  have hr := rg_of (n := N) (by omega)
  obtain ⟨ws, μ1, e1, u1, hw, r1⟩ := lcR (n := n) (t := tNm 6) (fe := q1__law_co_class) (all := nI (upto N)) (ρ := wipeR [some (.loc n), some (.d (.int N)), none, none, none, none, none, none] [6]) PyData.int (fun _ p => 0 ≤ p ∧ p ≤ 4) (upto N) μ d (fun x hx μ dd => by
    obtain ⟨r, μa, q0, q1, ua, ea⟩ := v_roll' dd (most := 5) (by decide) (by decide)
    obtain ⟨p, μb, hp, ub, eb⟩ := v_pick (ua.dice dd) (ds := [.int 0, .int 0, .int 1, .int 2, .int 3, .int 4, .int r]) (by simp) (by simp)
    obtain ⟨y, hy, rfl⟩ : ∃ y : Int, (0 ≤ y ∧ y ≤ 4) ∧ p = .int y := by
      simp at hp
      rcases hp with rfl | rfl | rfl | rfl | rfl | rfl
      · exact ⟨0, by omega, rfl⟩
      · exact ⟨1, by omega, rfl⟩
      · exact ⟨2, by omega, rfl⟩
      · exact ⟨3, by omega, rfl⟩
      · exact ⟨4, by omega, rfl⟩
      · exact ⟨r, by omega, rfl⟩
    refine ⟨_, y, μb, rfl, ?_, ua.trans ub, hy⟩
    simp [q1__law_co_class, wipeR, ea, eb])
  rw [upto_len] at hw r1
  have hwb : ∀ x ∈ ws, 0 ≤ x ∧ x ≤ 4 := fun x hx => by
    obtain ⟨i, hi, rfl⟩ := mem_gd hx
    exact r1 i (by omega)
  have d1 := u1.dice d
  obtain ⟨rs, μ2, e2, u2, hl, r2⟩ := lcR (n := n) (t := tNm 7) (fe := q2__law_co_class) (all := nI ws) (ρ := wipeR [some (.loc n), some (.d (.int N)), some (.d (.tuple (nI ws))), none, none, none, none, none] [7]) PyData.int (fun w p => (0 ≤ p ∧ p ≤ (N : Int)) ∧ (w = 4 → p = 0)) ws μ1 d1 (fun x hx μ dd => by
    by_cases h4 : x = 4
    · refine ⟨_, 0, μ, rfl, ?_, DU.refl dd, by omega, fun _ => rfl⟩
      simp [q2__law_co_class, wipeR, h4, PyData.plain, PyData.depth, PyData.eqv]
    · obtain ⟨r, μa, q0, q1, ua, ea⟩ := v_roll' dd (most := (N : Int) + 1) (by omega) (by omega)
      refine ⟨_, r, μa, rfl, ?_, ua, by omega, fun z => absurd z h4⟩
      have hb : (x == 4) = false := by simpa using h4
      simp [q2__law_co_class, wipeR, hb, PyData.plain, PyData.depth, PyData.eqv, ea])
  have hrb : ∀ x ∈ rs, 0 ≤ x ∧ x ≤ (N : Int) := fun x hx => by
    obtain ⟨i, hi, rfl⟩ := mem_gd hx
    exact (r2 i (by omega)).1
  have e3 : ∀ (a b c : Option Vw) (μ : Mu), VL.lcM (tNm 6) r3__law_co_class q4__law_co_class none (rngD 0 N) (rngD 0 N) (wipeR [a, b, c, some (.d (.list (nI rs))), none, none, none, none] [6]) μ = some (nI (lotOf N rs 0), μ) := fun a b c μ => by
    rw [rngD_nI, ← kE, lcE PyData.int (fun c => decide (gd rs c.toNat = 0)) PyData.int (upto N) (fun c hc => by
      obtain ⟨i, hi, rfl⟩ := List.mem_map.mp hc
      have hi := List.mem_range.mp hi
      have ha := atI_nI (ws := rs) (i := i) (by omega)
      refine ⟨_, rfl, ?_, fun _ => by simp [q4__law_co_class, wipeR]⟩
      simp [r3__law_co_class, wipeR, ha, PyData.plain, PyData.depth, PyData.eqv]
      rfl)]
    rfl
  obtain ⟨q5, e4⟩ := v_w7 μ2 N (by omega) (some (.loc n)) (some (.d (.tuple (nI ws)))) rs (by omega) (rngD 1 N) ((List.range N).map fun (i : Nat) => (1 : Int) + (i : Int)) [lotOf N rs 0] none (by simp; omega)
  have hrg : nI ((List.range N).map fun (i : Nat) => (1 : Int) + (i : Int)) = rngD 1 N := by simp [nI, rngD]
  rw [hrg] at e4
  have ho : ((List.range N).map fun (i : Nat) => (1 : Int) + (i : Int)).filterMap (fun k => if k ∈ rs then some (lotOf N rs k) else none) = ordP N rs := rfl
  rw [ho] at e4
  have hr2 : rgOk 1 ((N : Int) + 1) := ⟨by omega, by omega, by omega, by omega⟩
  have hsub : ((N : Int) + 1 - 1).toNat = N := by omega
  rw [kE, ← rngD_nI] at e1
  rw [kE] at e2
  have len1 := u1.len
  have len2 := u2.len
  have tk : μ2.take μ.length = μ2 := List.take_of_length_le (by omega)
  have lw : ws.length ≤ 1000000 := by omega
  have lr : rs.length ≤ 1000000 := by omega
  have l0 : (lotOf N rs 0).length ≤ 1000000 := by
    have := List.length_filter_le (fun c : Int => decide (gd rs c.toNat = 0)) (upto N)
    rw [upto_len] at this
    unfold lotOf; omega
  refine ⟨ws, lotOf N rs 0, ordP N rs, μ2, ?_, u1.trans u2, by rw [hw]; exact hN, by rw [hw]; exact ord_facts N hN rs (by omega) hrb, hwb, fun x hx c hc => ?_⟩
  · simp only [List.map_cons, List.map_nil, List.singleton_append, tI] at e4
    generalize lotOf N rs 0 = F at *
    generalize ordP N rs = O at *
    simp [m__law_co_class, b__law_co_class, fnM, hr, e1, e2, e3, nI_len, lw, lr, l0, hr2, hsub, e4]
    exact ⟨rfl, by rw [List.take_append_of_le_length (by omega)]; exact tk⟩
  · obtain ⟨k, hk, hx2⟩ := List.mem_filterMap.mp hx
    obtain ⟨i, hi, rfl⟩ := List.mem_map.mp hk
    split at hx2
    · cases hx2
      have hc2 := (List.mem_filter.mp hc)
      have hcu := hc2.1
      have hcr := of_decide_eq_true hc2.2
      obtain ⟨j, hj, rfl⟩ := List.mem_map.mp hcu
      have hj := List.mem_range.mp hj
      simp only [Int.toNat_natCast] at hcr ⊢
      have q := r2 j (by omega)
      have hb := hwb _ (gd_mem (ws := ws) (i := j) (by omega))
      have hne : gd ws j ≠ 4 := fun z => by
        have hh : ws[j]'(by omega) = gd ws j := by simp [gd, List.getD_eq_getElem?_getD, show j < ws.length by omega]
        have := q.2 (by rw [hh]; exact z)
        omega
      omega
    · cases hx2
end MR
end
section
set_option Elab.async false
set_option linter.all false
set_option maxHeartbeats 1000000
set_option exponentiation.threshold 30000
namespace MR
open PySem PySem.Spec PyProof.Rows L2 VL MF
abbrev fr (p : Int × Int) : PyData := .tuple [.int p.1, .int p.2]
theorem small_pow {n : Nat} {k : Nat} (h : n < 10 ^ 60) (hk : 200 ≤ k) : n < 2 ^ k := by
  refine Nat.lt_of_lt_of_le h (Nat.le_trans (?_ : 10 ^ 60 ≤ 2 ^ 200) (Nat.pow_le_pow_right (by decide) hk))
  decide +kernel
theorem v_reduced (μ : Mu) (t b : Int) (hb : b ≠ 0) (h9 : b.natAbs < 2 ^ 8000) : m_reduced μ [.d (.int t), .d (.int b)] = some (.d (fr (L t b)), μ) := by
  have hg : 0 < Nat.gcd t.natAbs b.natAbs := Nat.gcd_pos_of_pos_right _ (by omega)
  have hl : Nat.gcd t.natAbs b.natAbs < 2 ^ 8000 := Nat.lt_of_le_of_lt (Nat.gcd_le_right _ (by omega)) h9
  have h1 : ∀ i, divOk i ((Nat.gcd t.natAbs b.natAbs : Nat) : Int) = true := fun i => divOk_of (b := 8000) (by omega) (by simpa using hl) (by decide)
  have h2 : ∀ i, divOk i (-((Nat.gcd t.natAbs b.natAbs : Nat) : Int)) = true := fun i => divOk_of (b := 8000) (by omega) (by simpa using hl) (by decide)
  by_cases c : b < 0
  · simp [m_reduced, b_reduced, fnM, c, h1, h2, L, fr]
  · simp [m_reduced, b_reduced, fnM, c, h1, h2, L, fr]
theorem v_is_numI (μ : Mu) {i : Int} (h : i.natAbs < 10 ^ 60) : m_is_number μ [.d (.int i)] = some (.d (.bool true), μ) := by
  have h1 : -999999999999999999999999999999999999999999999999999999999999 ≤ i := by omega
  have h2 : i ≤ 999999999999999999999999999999999999999999999999999999999999 := by omega
  simp [m_is_number, b_is_number, fnM, isaB, h1, h2]
theorem at0' (x y : PyData) : atI [x, y] 0 = some x := rfl
theorem at1' (x y : PyData) : atI [x, y] 1 = some y := rfl
theorem v_is_frF (μ : Mu) {p : Int × Int} (hf : IsF p) (ht : p.1.natAbs < 10 ^ 60) (hb : p.2.natAbs < 10 ^ 60) : m_is_fraction μ [.d (fr p)] = some (.d (.bool true), μ) := by
  have e1 := v_is_row μ 2 [.int p.1, .int p.2] rfl
  have e2 := v_is_numI μ ht
  have e3 := v_is_numI μ hb
  have h1 := hf.1
  have h2 := hf.2
  simp [m_is_fraction, b_is_fraction, fnM, e1, e2, e3, at0', at1', h1, h2, PyData.eqv, PyData.plain, PyData.depth]

structure Bd (n : Nat) (p : Int × Int) : Prop where
  pos : 0 < p.2
  top : p.1.natAbs < 2 ^ n
  bot : p.2.natAbs < 2 ^ n
theorem Bd.mono {n m : Nat} {p : Int × Int} (h : Bd n p) (l : n ≤ m) : Bd m p :=
  ⟨h.pos, Nat.lt_of_lt_of_le h.top (Nat.pow_le_pow_right (by decide) l), Nat.lt_of_lt_of_le h.bot (Nat.pow_le_pow_right (by decide) l)⟩
theorem lt_mul {i j : Int} {a b : Nat} (ha : i.natAbs < 2 ^ a) (hb : j.natAbs < 2 ^ b) : (i * j).natAbs < 2 ^ (a + b) := by
  rw [Int.natAbs_mul, Nat.pow_add]; exact Nat.mul_lt_mul'' ha hb
theorem lt_add {i j : Int} {a : Nat} (ha : i.natAbs < 2 ^ a) (hb : j.natAbs < 2 ^ a) : (i + j).natAbs < 2 ^ (a + 1) := by
  rw [Nat.pow_succ]; omega
theorem lt_sub {i j : Int} {a : Nat} (ha : i.natAbs < 2 ^ a) (hb : j.natAbs < 2 ^ a) : (i - j).natAbs < 2 ^ (a + 1) := by
  rw [Nat.pow_succ]; omega
theorem lt_up {x a b : Nat} (h : x < 2 ^ a) (l : a ≤ b) : x < 2 ^ b := Nat.lt_of_lt_of_le h (Nat.pow_le_pow_right (by decide) l)
def addF (p q : Int × Int) : Int × Int := L (p.1 * q.2 + q.1 * p.2) (p.2 * q.2)
def mulF (p q : Int × Int) : Int × Int := L (p.1 * q.1) (p.2 * q.2)
theorem L_Bd {n : Nat} {t b : Int} (hb : b ≠ 0) (ht : t.natAbs < 2 ^ n) (hn : b.natAbs < 2 ^ n) : Bd n (L t b) :=
  ⟨(L_isF t hb).1, Nat.lt_of_le_of_lt (L_le1 t hb) ht, Nat.lt_of_le_of_lt (L_le2 t hb) hn⟩
section
variable {p q : Int × Int} {n m : Nat}
theorem pos_mul (hp : 0 < p.2) (hq : 0 < q.2) : p.2 * q.2 ≠ 0 := Int.mul_ne_zero (by omega) (by omega)
theorem at0 (x y : PyData) : atI [x, y] 0 = some x := rfl
theorem at1 (x y : PyData) : atI [x, y] 1 = some y := rfl
theorem addF_Bd (hp : Bd n p) (hq : Bd m q) : Bd (n + m + 1) (addF p q) :=
  L_Bd (pos_mul hp.pos hq.pos) (lt_add (lt_mul hp.top hq.bot) (by rw [Nat.add_comm]; exact lt_mul hq.top hp.bot)) (lt_up (lt_mul hp.bot hq.bot) (by omega))
theorem mulF_Bd (hp : Bd n p) (hq : Bd m q) : Bd (n + m) (mulF p q) :=
  L_Bd (pos_mul hp.pos hq.pos) (lt_mul hp.top hq.top) (lt_mul hp.bot hq.bot)
theorem v_sum_of (μ : Mu) (hp : Bd n p) (hq : Bd m q) (hn : n + m ≤ 7900) : m_sum_of μ [.d (fr p), .d (fr q)] = some (.d (fr (addF p q)), μ) := by
  have h1 : mulOk p.1 q.2 = true := mulOk_w hp.top hq.bot (by omega)
  have h2 : mulOk q.1 p.2 = true := mulOk_w hq.top hp.bot (by omega)
  have h3 : mulOk p.2 q.2 = true := mulOk_w hp.bot hq.bot (by omega)
  have h4 := v_reduced μ (p.1 * q.2 + q.1 * p.2) (p.2 * q.2) (pos_mul hp.pos hq.pos) (lt_up (lt_mul hp.bot hq.bot) (by omega))
  simp [m_sum_of, b_sum_of, fnM, at0, at1, h1, h2, h3, h4, addF]
end
structure Fr (p : Int × Int) : Prop where
  f : IsF p
  top : p.1.natAbs < 10 ^ 60
  bot : p.2.natAbs < 10 ^ 60
theorem Fr.bd {p : Int × Int} (h : Fr p) : Bd 200 p := ⟨h.f.1, small_pow h.top (by decide), small_pow h.bot (by decide)⟩
section
variable {p q : Int × Int}
theorem eqv_fr (p q : Int × Int) : PyData.eqv (fr p) (fr q) = decide (p = q) := by
  simp [PyData.eqv, PyData.eqvAll, Prod.ext_iff, Bool.beq_eq_decide_eq, Bool.decide_and]
theorem plain_fr (p : Int × Int) : (fr p).plain = true := by simp [PyData.plain, PyData.plainAll]
theorem depth_fr (p : Int × Int) : (fr p).depth = 1 := by simp [PyData.depth, PyData.depthAll]
end
theorem euclid (t b : Vw) (μ : Mu) : ∀ (n : Nat) (y x : Int), 0 ≤ x → 0 ≤ y → y < n → whileM t1__law_co_low w2__law_co_low n [some t, some b, some (.d (.int x)), some (.d (.int y))] μ =
    some (.nx [some t, some b, some (.d (.int (Nat.gcd x.natAbs y.natAbs : Nat))), some (.d (.int 0))] μ)
  | 0, y, x, _, h, h2 => by omega
  | n + 1, y, x, hx, hy, h => by
    by_cases c : y = 0
    · subst c
      have e1 : ((x.natAbs : Nat) : Int) = x := by omega
      have h1 : t1__law_co_low [some t, some b, some (.d (.int x)), some (.d (.int 0))] μ = some (false, μ) := by
        simp [t1__law_co_low, PyData.eqv, PyData.plain, PyData.depth]
      simp only [whileM, h1]
      simp [e1]
    · have hp : 0 < y := by omega
      have h0 := Int.fmod_nonneg_of_pos x hp
      have h1 := Int.fmod_lt_of_pos x hp
      have ih := euclid t b μ n (x.fmod y) y hy h0 (by omega)
      have eg : Nat.gcd y.natAbs (x.fmod y).natAbs = Nat.gcd x.natAbs y.natAbs := by
        rw [Int.fmod_eq_emod_of_nonneg _ hy, Int.natAbs_emod_of_nonneg hx, Nat.gcd_comm x.natAbs y.natAbs, Nat.gcd_rec y.natAbs x.natAbs]
        exact Nat.gcd_comm _ _
      rw [eg] at ih
      have c2 : (y == 0) = false := by simpa using c
      have h2 : t1__law_co_low [some t, some b, some (.d (.int x)), some (.d (.int y))] μ = some (true, μ) := by
        simp [t1__law_co_low, PyData.eqv, PyData.plain, PyData.depth, c2, hp]
      have h3 : w2__law_co_low [some t, some b, some (.d (.int x)), some (.d (.int y))] μ = some (.nx [some t, some b, some (.d (.int y)), some (.d (.int (x.fmod y)))] μ) := by
        simp [w2__law_co_low, c]
      simp only [whileM, h2, h3, ih]
theorem v_co_low (μ : Mu) (t b : Int) (hb : 0 < b) (h9 : b.natAbs < 2 ^ 8000) : m__law_co_low μ [.d (.int t), .d (.int b)] = some (.d (fr (L t b)), μ) := by
  have hg : 0 < Nat.gcd t.natAbs b.natAbs := Nat.gcd_pos_of_pos_right _ (by omega)
  have hl : Nat.gcd t.natAbs b.natAbs < 2 ^ 8000 := Nat.lt_of_le_of_lt (Nat.gcd_le_right _ (by omega)) h9
  have h1 : ∀ i, divOk i ((Nat.gcd t.natAbs b.natAbs : Nat) : Int) = true := fun i => divOk_of (b := 8000) (by omega) (by simpa using hl) (by decide)
  have ab : ∀ x : Int, (if x < 0 then -x else x) = ((x.natAbs : Nat) : Int) := fun x => by split <;> omega
  have hf : ((b.natAbs : Nat) : Int) < ((FUEL : Nat) : Int) := by
    have : (2 : Nat) ^ 8000 < FUEL := by unfold FUEL; exact Nat.pow_lt_pow_right (by decide) (by decide)
    omega
  have e := euclid (.d (.int t)) (.d (.int b)) μ FUEL (b.natAbs : Int) (t.natAbs : Int) (by omega) (by omega) hf
  rw [Int.natAbs_natCast, Int.natAbs_natCast] at e
  have c : ¬ b < 0 := by omega
  rw [show ((b.natAbs : Nat) : Int) = b by omega] at e
  simp [m__law_co_low, b__law_co_low, fnM, sWhile, ab, e, c, h1, L, fr]
/-! ### parts of one whole S -/
structure SOk (S : Int) : Prop where
  pos : 0 < S
  le : S < 2 ^ 60
def Nm (S x : Int) : Prop := 0 ≤ x ∧ x ≤ 100 * S
theorem add_L {S a c : Int} (hS : 0 < S) : addF (L a S) (L c S) = L (a + c) S := by
  have h0 : S ≠ 0 := by omega
  have h1 := L_val a h0
  have h2 := L_val c h0
  refine L_eq (pos_mul (L_isF a h0).1 (L_isF c h0).1) h0 ?_
  generalize (L a S).1 = p1 at *
  generalize (L a S).2 = p2 at *
  generalize (L c S).1 = q1 at *
  generalize (L c S).2 = q2 at *
  grind
theorem bdS {S x : Int} (s : SOk S) (h : Nm S x) : Bd 70 (L x S) := by
  have h1 := s.pos; have h2 := s.le; have h3 := h.1; have h4 := h.2
  refine L_Bd (by omega) ?_ ?_
  · have : (2 : Nat) ^ 70 = 1180591620717411303424 := by decide
    omega
  · have : (2 : Nat) ^ 70 = 1180591620717411303424 := by decide
    omega
theorem v_sumS (μ : Mu) {S a c : Int} (s : SOk S) (ha : Nm S a) (hc : Nm S c) : m_sum_of μ [.d (fr (L a S)), .d (fr (L c S))] = some (.d (fr (L (a + c) S)), μ) := by
  rw [v_sum_of μ (bdS s ha) (bdS s hc) (by decide), add_L s.pos]
theorem L_zero {S : Int} (s : SOk S) : L 0 S = (0, 1) := by
  have hS : S ≠ 0 := by have := s.pos; omega
  rw [L_eq (t := 0) (b := S) (u := 0) (c := 1) hS (by decide) (by simp)]
  decide
theorem L_one {S : Int} (s : SOk S) : L S S = (1, 1) := by
  have hS : S ≠ 0 := by have := s.pos; omega
  rw [L_eq (t := S) (b := S) (u := 1) (c := 1) hS (by decide) (by simp)]
  decide
theorem L_whole {S w : Int} (s : SOk S) : L (w * S) S = (w, 1) := by
  have hS : S ≠ 0 := by have := s.pos; omega
  rw [L_eq (t := w * S) (b := S) (u := w) (c := 1) hS (by decide) (by simp)]
  exact L_of (p := (w, 1)) ⟨by show (0 : Int) < 1; decide, by simp⟩
theorem L_inj {S a c : Int} (s : SOk S) (h : L a S = L c S) : a = c := by
  have hS : S ≠ 0 := by have := s.pos; omega
  have h1 := L_val a hS
  have h2 := L_val c hS
  rw [h] at h1
  have hp := (L_isF c hS).1
  have : a * (L c S).2 = c * (L c S).2 := by rw [← h1, ← h2]
  exact Int.eq_of_mul_eq_mul_right (by omega) this
/-- the row of the parts b of S -/
def rw_ (S : Int) (b : List Int) : List PyData := b.map fun x => fr (L x S)
end MR
end
section
set_option Elab.async false
set_option linter.all false
set_option maxHeartbeats 1000000
set_option maxRecDepth 20000
set_option exponentiation.threshold 30000
namespace MR
open PySem PySem.Spec PyProof.Rows L2 VL MF
theorem sum_nn : ∀ l : List Int, (∀ x ∈ l, 0 ≤ x) → 0 ≤ l.sum
  | [], _ => by simp
  | y :: l, h => by rw [List.sum_cons]; have := h y (by simp); have := sum_nn l fun x hx => h x (List.mem_cons_of_mem _ hx); omega
theorem le_sum : ∀ (l : List Int), (∀ x ∈ l, 0 ≤ x) → ∀ x ∈ l, x ≤ l.sum
  | [], _, x, hx => by cases hx
  | y :: l, h, x, hx => by
    rw [List.sum_cons]
    have h1 := h y (by simp)
    have h2 := sum_nn l fun x hx => h x (List.mem_cons_of_mem _ hx)
    rcases List.mem_cons.mp hx with rfl | hx
    · omega
    · have := le_sum l (fun x hx => h x (List.mem_cons_of_mem _ hx)) x hx; omega
structure Wt (S : Int) (b : List Int) (k : Nat) : Prop where
  s : SOk S
  nn : ∀ x ∈ b, 0 ≤ x
  sum : b.sum = S
  len : b.length = k
  k4 : k ≤ 4
theorem Wt.le {S : Int} {b : List Int} {k : Nat} (w : Wt S b k) : ∀ x ∈ b, 0 ≤ x ∧ x ≤ S := fun x hx => ⟨w.nn x hx, by rw [← w.sum]; exact le_sum b w.nn x hx⟩
theorem L_nn {S x : Int} (s : SOk S) (h : 0 ≤ x) : 0 ≤ (L x S).1 := by
  have hS : S ≠ 0 := by have := s.pos; omega
  have h1 := L_val x hS
  have h2 := (L_isF x hS).1
  have h3 : 0 ≤ x * (L x S).2 := Int.mul_nonneg h (by omega)
  rw [← h1] at h3
  exact Int.nonneg_of_mul_nonneg_left h3 s.pos
theorem total_loop (μ : Mu) {S : Int} (s : SOk S) (v0 : Option Vw) (all : List PyData) : ∀ (b : List Int) (acc : Int) (z : Option Vw), (∀ x ∈ b, 0 ≤ x) → 0 ≤ acc → acc + b.sum ≤ 100 * S →
    ∃ z', VL.forM (tNm 2) w1_total_of none all (rw_ S b) [v0, some (.d (fr (L acc S))), z] μ = some (.nx [v0, some (.d (fr (L (acc + b.sum) S))), z'] μ)
  | [], acc, z, _, _, _ => ⟨z, by simp [VL.forM, srcOk_none, rw_]⟩
  | x :: b, acc, z, h, h0, h1 => by
    have hx := h x (by simp)
    have hb := sum_nn b fun y hy => h y (List.mem_cons_of_mem _ hy)
    rw [List.sum_cons] at h1
    obtain ⟨z', e⟩ := total_loop μ s v0 all b (acc + x) (some (.d (fr (L x S)))) (fun y hy => h y (List.mem_cons_of_mem _ hy)) (by omega) (by omega)
    have e2 := v_sumS μ s (a := acc) (c := x) ⟨h0, by omega⟩ ⟨hx, by omega⟩
    refine ⟨z', ?_⟩
    rw [List.sum_cons, ← Int.add_assoc, ← e]
    simp [VL.forM, srcOk_none, w1_total_of, e2, rw_]
theorem v_total (μ : Mu) {S : Int} (s : SOk S) (b : List Int) (h : ∀ x ∈ b, 0 ≤ x) (h1 : b.sum ≤ 100 * S) : m_total_of μ [.d (.tuple (rw_ S b))] = some (.d (fr (L b.sum S)), μ) := by
  obtain ⟨z', e⟩ := total_loop μ s (some (.d (.tuple (rw_ S b)))) (rw_ S b) b 0 none h (by decide) (by omega)
  rw [L_zero s, Int.zero_add] at e
  simp [m_total_of, b_total_of, fnM]
  rw [e]
  simp
theorem v_isfr (μ : Mu) {S x : Int} (s : SOk S) (h : Nm S x) : m_is_fraction μ [.d (fr (L x S))] = some (.d (.bool true), μ) := by
  have hS : S ≠ 0 := by have := s.pos; omega
  have b := bdS s h
  have p : (2 : Nat) ^ 70 < 10 ^ 60 := by decide
  exact v_is_frF μ (L_isF x hS) (Nat.lt_trans b.top p) (Nat.lt_trans b.bot p)
theorem v_are_frS (μ : Mu) {S : Int} (s : SOk S) (b : List Int) (h : ∀ x ∈ b, Nm S x) (hl : b.length ≤ 1000) : m_are_fractions μ [.d (.tuple (rw_ S b))] = some (.d (.bool true), μ) := by
  have l := lcE0 (t := tNm 1) (fe := q1_are_fractions) (all := rw_ S b) (ρ := [some (.d (.tuple (rw_ S b))), none]) (μ := μ) (fun x => fr (L x S)) (fun _ => .bool true) b (fun x hx => ⟨_, rfl, by simp [q1_are_fractions, v_isfr μ s (h x hx)]⟩)
  rw [show b.map (fun x => fr (L x S)) = rw_ S b from rfl] at l
  have tb := toB_true b
  have ha := all_true b
  simp [m_are_fractions, b_are_fractions, fnM, isaB, wipeR]
  rw [l]
  simp [show b.length ≤ 1000000 by omega, tb]
  try simpa using ha
theorem v_are_weights (μ : Mu) {S : Int} {b : List Int} {k : Nat} (w : Wt S b k) : m_are_weights μ [.d (.tuple (rw_ S b))] = some (.d (.bool true), μ) := by
  have hl : b.length ≤ 1000 := by rw [w.len]; have := w.k4; omega
  have hn : ∀ x ∈ b, Nm S x := fun x hx => ⟨(w.le x hx).1, by have := (w.le x hx).2; have := w.s.pos; omega⟩
  have c1 := v_are_frS μ w.s b hn hl
  have l := lcE0 (t := tNm 1) (fe := q1_are_weights) (all := rw_ S b) (ρ := [some (.d (.tuple (rw_ S b))), none]) (μ := μ) (fun x => fr (L x S)) (fun x => .bool (decide ((L x S).1 < 0))) b (fun x hx => ⟨_, rfl, by simp [q1_are_weights, at0]⟩)
  rw [show b.map (fun x => fr (L x S)) = rw_ S b from rfl] at l
  have tb := toB_map (fun x : Int => decide ((L x S).1 < 0)) b
  have hany : (b.map fun x => decide ((L x S).1 < 0)).any id = false := by
    rw [List.any_eq_false]
    intro x hx
    obtain ⟨y, hy, rfl⟩ := List.mem_map.mp hx
    have := L_nn w.s (w.nn y hy)
    simp; omega
  have tt := v_total μ w.s b w.nn (by rw [w.sum]; have := w.s.pos; omega)
  rw [w.sum, L_one w.s] at tt
  have e0 : oEq false μ (.d (fr (1, 1))) (.d (.tuple [.int 1, .int 1])) = some (.d (.bool true)) := by kernel_rfl
  have hany' : (b.any fun x => decide ((L x S).1 < 0)) = false := by rw [List.any_map] at hany; exact hany
  simp [m_are_weights, b_are_weights, fnM, c1, wipeR]
  rw [l]
  simp [show b.length ≤ 1000000 by omega, tb, tt, hany', PyData.plain, PyData.plainAll, PyData.depth, PyData.depthAll, PyData.eqv, PyData.eqvAll]
theorem v_check_weights (μ : Mu) {S : Int} {b : List Int} {ws : List Int} {s : List (List Int)} (w : Wt S b s.length) : m_check_weights μ [.d (cl ws s), .d (.tuple (rw_ S b))] = some (.d .none, μ) := by
  have e := v_are_weights μ w
  have hl : (rw_ S b).length = s.length := by simp [rw_, w.len]
  have hk := w.k4
  simp [m_check_weights, b_check_weights, fnM, e, cl, tL, at1, hl, PyData.eqv, PyData.plain, PyData.depth]
end MR
end
section
set_option Elab.async false
set_option linter.all false
set_option maxHeartbeats 1000000
set_option maxRecDepth 20000
set_option exponentiation.threshold 30000
namespace MR
open PySem PySem.Spec PyProof.Rows L2 VL MF
def adds (t : Int) : List Int → List Int → List Int
  | [], v => v
  | c :: lot, v => adds t lot (v.set c.toNat (gd v c.toNat + t))
def addz : List (List Int) → List Int → List Int → List Int
  | o :: os, t :: ts, v => addz os ts (adds t o v)
  | _, _, v => v
theorem adds_len (t : Int) : ∀ (lot v : List Int), (adds t lot v).length = v.length
  | [], v => rfl
  | c :: lot, v => by rw [adds, adds_len t lot]; simp
theorem rw_len (S : Int) (v : List Int) : (rw_ S v).length = v.length := by simp [rw_]
theorem rw_get {S : Int} {v : List Int} {i : Nat} (h : i < v.length) : (rw_ S v)[i]? = some (fr (L (gd v i) S)) := by simp [rw_, gd, List.getD_eq_getElem?_getD, h]
theorem atI_rw {S : Int} {v : List Int} {c : Int} (h0 : 0 ≤ c) (h1 : c < v.length) : atI (rw_ S v) c = some (fr (L (gd v c.toNat) S)) := by
  obtain ⟨i, rfl⟩ := Int.eq_ofNat_of_zero_le h0
  rw [MR.atI_nat _ _ (by rw [rw_len]; omega), rw_get (by omega)]
  simp
theorem ixN_in {n : Nat} {c : Int} (h0 : 0 ≤ c) (h1 : c < n) : ixN n c = some c.toNat := by
  unfold ixN
  rw [if_pos h0]
  simp; omega
theorem set_end (μ : Mu) (x y : List PyData) : (μ ++ [x]).set μ.length y = μ ++ [y] := by simp
theorem rw_set (S : Int) (v : List Int) (i : Nat) (x : Int) : (rw_ S v).set i (fr (L x S)) = rw_ S (v.set i x) := by simp [rw_, List.map_set]
theorem mem_set {v : List Int} {i : Nat} {x y : Int} (h : y ∈ v.set i x) : y ∈ v ∨ y = x := List.mem_or_eq_of_mem_set h
theorem gd_memI {v : List Int} {c : Int} (h0 : 0 ≤ c) (h1 : c < v.length) : gd v c.toNat ∈ v := gd_mem (by omega)
theorem src_of {n : Nat} {all : List PyData} {μ : Mu} (h : μ[n]? = some all) : srcOk (some n) all μ := fun m hm => by cases hm; exact h
theorem adds_bd {t S : Int} (h0 : 0 ≤ t) (h1 : t ≤ S) : ∀ (lot v : List Int) (M : Int), (∀ c ∈ lot, 0 ≤ c ∧ c < v.length) → (∀ x ∈ v, 0 ≤ x ∧ x ≤ M) → ∀ x ∈ adds t lot v, 0 ≤ x ∧ x ≤ M + lot.length * S
  | [], v, M, _, h, x, hx => by have := h x hx; simp; omega
  | c :: lot, v, M, hc, h, x, hx => by
    have hm := h _ (gd_memI (hc c (by simp)).1 (hc c (by simp)).2)
    have ih := adds_bd h0 h1 lot (v.set c.toNat (gd v c.toNat + t)) (M + S) (fun d hd => by simpa using hc d (List.mem_cons_of_mem _ hd)) (fun y hy => by
      rcases mem_set hy with hy | rfl
      · have := h y hy; omega
      · omega) x hx
    refine ⟨ih.1, ?_⟩
    have e : (((c :: lot).length : Nat) : Int) * S = (lot.length : Int) * S + S := by rw [List.length_cons]; push_cast; rw [Int.add_mul]; omega
    rw [e]
    have := ih.2
    omega
theorem ra_inner (μ : Mu) {S : Int} (s : SOk S) {t : Int} (t0 : 0 ≤ t) (t1 : t ≤ S) (a b c d e f : Option Vw) (all : List PyData) : ∀ (lot v : List Int) (M : Int) (q7 : Option Vw), (∀ c ∈ lot, 0 ≤ c ∧ c < v.length) → (∀ x ∈ v, 0 ≤ x ∧ x ≤ M) → M + lot.length * S ≤ 99 * S →
    ∃ q7', VL.forM (tNm 7) w2_readings_at none all (nI lot) [a, b, c, d, some (.loc μ.length), e, some (.d (fr (L t S))), q7, f] (μ ++ [rw_ S v]) = some (.nx [a, b, c, d, some (.loc μ.length), e, some (.d (fr (L t S))), q7', f] (μ ++ [rw_ S (adds t lot v)]))
  | [], v, M, q7, _, _, _ => ⟨q7, by simp [VL.forM, srcOk_none, nI, adds]⟩
  | i :: lot, v, M, q7, hc, hv, hM => by
    obtain ⟨i0, i1⟩ := hc i (by simp)
    have hx := hv _ (gd_memI i0 i1)
    have sp := s.pos
    have el : (((i :: lot).length : Nat) : Int) * S = (lot.length : Int) * S + S := by rw [List.length_cons]; push_cast; rw [Int.add_mul]; omega
    have nn : 0 ≤ (lot.length : Int) * S := Int.mul_nonneg (by omega) (by omega)
    rw [el] at hM
    obtain ⟨q7', ih⟩ := ra_inner μ s t0 t1 a b c d e f all lot (v.set i.toNat (gd v i.toNat + t)) (M + S) (some (.d (.int i))) (fun d hd => by simpa using hc d (List.mem_cons_of_mem _ hd)) (fun y hy => by
      rcases mem_set hy with hy | rfl
      · have := hv y hy; omega
      · omega) (by omega)
    refine ⟨q7', ?_⟩
    rw [adds, ← ih]
    have e1 := v_sumS (μ ++ [rw_ S v]) s (a := gd v i.toNat) (c := t) ⟨hx.1, by omega⟩ ⟨t0, by omega⟩
    have e2 := atI_rw (S := S) i0 i1
    have e3 := ixN_in (n := (rw_ S v).length) i0 (by rw [rw_len]; exact i1)
    have e4 := set_end μ (rw_ S v) ((rw_ S v).set i.toNat (fr (L (gd v i.toNat + t) S)))
    rw [rw_set] at e4
    simp only [nI, List.map_cons]
    simp [VL.forM, srcOk_none, w2_readings_at, e1, e2, e3, e4, rw_set]
theorem zip_to (os : List (List Int)) (S : Int) (ts : List Int) : zipD (os.map tI) (rw_ S ts) = (os.zip ts).map fun p => .tuple [tI p.1, fr (L p.2 S)] := by
  simp [zipD, rw_, List.zip_map, List.map_map, Function.comp_def]
theorem ra_outer (μ : Mu) {S : Int} (s : SOk S) (n : Nat) (a c d f : Option Vw) (all : List PyData) (hn : μ[n]? = some all) : ∀ (os : List (List Int)) (ts v : List Int) (M : Int) (q5 q6 q7 : Option Vw), (∀ o ∈ os, ∀ c ∈ o, 0 ≤ c ∧ c < v.length) → (∀ t ∈ ts, 0 ≤ t ∧ t ≤ S) → (∀ x ∈ v, 0 ≤ x ∧ x ≤ M) → M + os.flatten.length * S ≤ 99 * S →
    ∃ q5' q6' q7', VL.forM (tTp (lCons (tNm 5) (lCons (tNm 6) lNil))) w3_readings_at (some n) all (zipD (os.map tI) (rw_ S ts)) [a, some (.loc n), c, d, some (.loc μ.length), q5, q6, q7, f] (μ ++ [rw_ S v]) = some (.nx [a, some (.loc n), c, d, some (.loc μ.length), q5', q6', q7', f] (μ ++ [rw_ S (addz os ts v)]))
  | [], ts, v, M, q5, q6, q7, _, _, _, _ => ⟨q5, q6, q7, by
    have hk : srcOk (some n) all (μ ++ [rw_ S v]) := src_of (by rw [List.getElem?_append_left (by exact (List.getElem?_eq_some_iff.mp hn).1)]; exact hn)
    rw [zip_to, List.zip_nil_left]
    simp [VL.forM, hk, addz]⟩
  | o :: os, [], v, M, q5, q6, q7, _, _, _, _ => ⟨q5, q6, q7, by
    have hk : srcOk (some n) all (μ ++ [rw_ S v]) := src_of (by rw [List.getElem?_append_left (by exact (List.getElem?_eq_some_iff.mp hn).1)]; exact hn)
    rw [zip_to, List.zip_nil_right]
    simp [VL.forM, hk, addz]⟩
  | o :: os, t :: ts, v, M, q5, q6, q7, ho, ht, hv, hM => by
    have hk : srcOk (some n) all (μ ++ [rw_ S v]) := src_of (by rw [List.getElem?_append_left (by exact (List.getElem?_eq_some_iff.mp hn).1)]; exact hn)
    have sp := s.pos
    have el : ((((o :: os).flatten.length : Nat)) : Int) * S = (o.length : Int) * S + (os.flatten.length : Int) * S := by rw [List.flatten_cons, List.length_append]; push_cast; rw [Int.add_mul]
    have nn : 0 ≤ (os.flatten.length : Int) * S := Int.mul_nonneg (by omega) (by omega)
    rw [el] at hM
    obtain ⟨t0, t1⟩ := ht t (by simp)
    obtain ⟨q7a, e1⟩ := ra_inner μ s t0 t1 a (some (.loc n)) c d (some (.d (tI o))) f (nI o) o v M q7 (ho o (by simp)) hv (by omega)
    obtain ⟨q5', q6', q7', e2⟩ := ra_outer μ s n a c d f all hn os ts (adds t o v) (M + o.length * S) (some (.d (tI o))) (some (.d (fr (L t S)))) q7a (fun x hx c hc => by rw [adds_len]; exact ho x (List.mem_cons_of_mem _ hx) c hc) (fun x hx => ht x (List.mem_cons_of_mem _ hx)) (adds_bd t0 t1 o v M (ho o (by simp)) hv) (by omega)
    refine ⟨q5', q6', q7', ?_⟩
    rw [addz, ← e2]
    rw [zip_to, zip_to, List.zip_cons_cons, List.map_cons]
    simp only [tI] at e1 ⊢
    simp [VL.forM, hk, w3_readings_at, e1]
end MR
end
section
set_option Elab.async false
set_option linter.all false
set_option maxHeartbeats 1000000
set_option maxRecDepth 20000
set_option exponentiation.threshold 30000
namespace MR
open PySem PySem.Spec PyProof.Rows L2 VL MF
/-! sums over pairs -/
def sm {α : Type} (ps : List (Int × α)) (F : α → Int) : Int := (ps.map fun p => p.1 * F p.2).sum
def at_ (ps : List (Int × Nat)) (j : Nat) : Int := ((ps.filter fun p => decide (p.2 = j)).map (·.1)).sum
theorem sm_cons {α : Type} (p : Int × α) (ps : List (Int × α)) (F : α → Int) : sm (p :: ps) F = p.1 * F p.2 + sm ps F := by simp [sm]
theorem sm_nil {α : Type} (F : α → Int) : sm ([] : List (Int × α)) F = 0 := by simp [sm]
theorem at_cons (p : Int × Nat) (ps : List (Int × Nat)) (j : Nat) : at_ (p :: ps) j = (if p.2 = j then p.1 else 0) + at_ ps j := by
  unfold at_
  by_cases h : p.2 = j
  · simp [h]
  · simp [h]
theorem sm_add {α : Type} (F H : α → Int) : ∀ ps : List (Int × α), sm ps (fun x => F x + H x) = sm ps F + sm ps H
  | [] => by simp [sm]
  | p :: ps => by rw [sm_cons, sm_cons, sm_cons, sm_add F H ps, Int.mul_add]; omega
theorem sm_congr {α : Type} {F H : α → Int} {ps : List (Int × α)} (h : ∀ p ∈ ps, F p.2 = H p.2) : sm ps F = sm ps H := by
  unfold sm
  congr 1
  exact List.map_congr_left fun p hp => by rw [h p hp]
theorem sm_map {α β : Type} (f : α → β) (F : β → Int) : ∀ ps : List (Int × α), sm (ps.map fun p => (p.1, f p.2)) F = sm ps fun x => F (f x)
  | [] => rfl
  | p :: ps => by rw [List.map_cons, sm_cons, sm_cons, sm_map f F ps]
theorem sm_one {α : Type} : ∀ ps : List (Int × α), sm ps (fun _ => 1) = (ps.map (·.1)).sum
  | [] => by simp [sm]
  | p :: ps => by rw [sm_cons, sm_one ps]; simp
theorem sm_zero {α : Type} : ∀ ps : List (Int × α), sm ps (fun _ => 0) = 0
  | [] => by simp [sm]
  | p :: ps => by rw [sm_cons, sm_zero ps]; simp
theorem sm_const {α : Type} (k : Int) : ∀ ps : List (Int × α), sm ps (fun _ => k) = (ps.map (·.1)).sum * k
  | [] => by simp [sm]
  | p :: ps => by rw [sm_cons, sm_const k ps]; simp [Int.add_mul]
theorem sm_le {α : Type} {F H : α → Int} : ∀ {ps : List (Int × α)}, (∀ p ∈ ps, 0 ≤ p.1 ∧ F p.2 ≤ H p.2) → sm ps F ≤ sm ps H
  | [], _ => by simp [sm]
  | p :: ps, h => by
    rw [sm_cons, sm_cons]
    have h1 := h p (by simp)
    have h2 := Int.mul_le_mul_of_nonneg_left h1.2 h1.1
    have := sm_le (F := F) (H := H) (ps := ps) fun q hq => h q (List.mem_cons_of_mem _ hq)
    omega
theorem at_nn {ps : List (Int × Nat)} (h : ∀ p ∈ ps, 0 ≤ p.1) (j : Nat) : 0 ≤ at_ ps j := by
  induction ps with
  | nil => simp [at_]
  | cons p ps ih =>
    rw [at_cons]
    have h1 := h p (by simp)
    have h2 := ih fun q hq => h q (List.mem_cons_of_mem _ hq)
    split <;> omega
def rsum (K : Nat) (f : Nat → Int) : Int := ((List.range K).map f).sum
theorem rsum_succ (K : Nat) (f : Nat → Int) : rsum (K + 1) f = rsum K f + f K := by simp [rsum, List.range_succ]
theorem rsum_add (f h : Nat → Int) : ∀ K, rsum K (fun j => f j + h j) = rsum K f + rsum K h
  | 0 => by simp [rsum]
  | K + 1 => by rw [rsum_succ, rsum_succ, rsum_succ, rsum_add f h K]; omega
theorem rsum_zero : ∀ K, rsum K (fun _ => 0) = 0
  | 0 => by simp [rsum]
  | K + 1 => by rw [rsum_succ, rsum_zero K]; rfl
theorem rsum_congr {K : Nat} {f h : Nat → Int} (e : ∀ j, j < K → f j = h j) : rsum K f = rsum K h := by
  unfold rsum
  congr 1
  exact List.map_congr_left fun j hj => e j (by simpa using hj)
theorem rsum_ite (x : Int) (F : Nat → Int) (g : Nat) : ∀ K, rsum K (fun j => (if g = j then x else 0) * F j) = if g < K then x * F g else 0
  | 0 => by simp [rsum]
  | K + 1 => by
    rw [rsum_succ, rsum_ite x F g K]
    by_cases h : g < K
    · rw [if_pos h, if_neg (by omega), if_pos (by omega)]; simp
    · rw [if_neg h]
      by_cases h2 : g = K
      · subst h2; simp
      · rw [if_neg h2, if_neg (by omega)]; simp
theorem regroup (F : Nat → Int) (K : Nat) : ∀ ps : List (Int × Nat), (∀ p ∈ ps, p.2 < K) → rsum K (fun j => at_ ps j * F j) = sm ps F
  | [], _ => by
    rw [sm_nil, ← rsum_zero K]
    exact rsum_congr fun j _ => by simp [at_]
  | p :: ps, h => by
    rw [sm_cons, ← regroup F K ps fun q hq => h q (List.mem_cons_of_mem _ hq)]
    have e : rsum K (fun j => at_ (p :: ps) j * F j) = rsum K (fun j => (if p.2 = j then p.1 else 0) * F j + at_ ps j * F j) := rsum_congr fun j _ => by rw [at_cons, Int.add_mul]
    rw [e, rsum_add, rsum_ite, if_pos (h p (by simp))]
def grp (K : Nat) (ps : List (Int × Nat)) : List Int := (List.range K).map (at_ ps)
theorem grp_len (K : Nat) (ps : List (Int × Nat)) : (grp K ps).length = K := by simp [grp]
theorem grp_nn {K : Nat} {ps : List (Int × Nat)} (h : ∀ p ∈ ps, 0 ≤ p.1) : ∀ x ∈ grp K ps, 0 ≤ x := fun x hx => by
  obtain ⟨j, _, rfl⟩ := List.mem_map.mp hx
  exact at_nn h j
theorem grp_sum {K : Nat} {ps : List (Int × Nat)} (h : ∀ p ∈ ps, p.2 < K) : (grp K ps).sum = (ps.map (·.1)).sum := by
  have := regroup (fun _ => 1) K ps h
  rw [sm_one] at this
  rw [← this]
  unfold grp rsum
  congr 1
  exact List.map_congr_left fun j _ => by simp
theorem zip_rng (f : Nat → Int) (cs : List (List Int)) (d : List Int) : ((List.range cs.length).map f).zip cs = (List.range cs.length).map fun j => (f j, cs.getD j d) := by
  apply List.ext_getElem
  · simp
  · intro i h1 h2
    simp only [List.length_zip, List.length_map, List.length_range, Nat.min_self] at h1
    simp [List.getD_eq_getElem?_getD, h1]
theorem sm_grp (ps : List (Int × Nat)) (cs : List (List Int)) (F : List Int → Int) (h : ∀ p ∈ ps, p.2 < cs.length) : sm ((grp cs.length ps).zip cs) F = sm ps fun j => F (cs.getD j []) := by
  rw [← regroup (fun j => F (cs.getD j [])) cs.length ps h]
  unfold grp
  rw [zip_rng (at_ ps) cs []]
  unfold sm rsum
  rw [List.map_map]
  rfl
def accF (ps : List (Int × Nat)) (v : List Int) : List Int := ps.foldl (fun v p => v.set p.2 (gd v p.2 + p.1)) v
theorem accF_len : ∀ (ps : List (Int × Nat)) (v : List Int), (accF ps v).length = v.length
  | [], v => rfl
  | p :: ps, v => by
    show (accF ps (v.set p.2 (gd v p.2 + p.1))).length = _
    rw [accF_len ps]; simp
theorem gd_set (v : List Int) (i j : Nat) (x : Int) (hj : j < v.length) : gd (v.set i x) j = if i = j then x else gd v j := by
  unfold gd
  by_cases h : i = j
  · subst h; simp [List.getD_eq_getElem?_getD, hj]
  · simp [List.getD_eq_getElem?_getD, List.getElem?_set, h]
theorem gd_accF (j : Nat) : ∀ (ps : List (Int × Nat)) (v : List Int), j < v.length → gd (accF ps v) j = gd v j + at_ ps j
  | [], v, _ => by simp [accF, at_]
  | p :: ps, v, h => by
    show gd (accF ps (v.set p.2 (gd v p.2 + p.1))) j = _
    rw [gd_accF j ps _ (by simpa using h), gd_set _ _ _ _ h, at_cons]
    split
    · rename_i e; subst e; omega
    · omega
theorem accF_grp (ps : List (Int × Nat)) (K : Nat) : accF ps (List.replicate K 0) = grp K ps := by
  apply gd_ext
  · rw [accF_len, grp_len]; simp
  · intro i hi
    rw [accF_len, List.length_replicate] at hi
    rw [gd_accF i ps _ (by simpa using hi)]
    simp [gd, grp, List.getD_eq_getElem?_getD, hi]
def rsts (last : Int) : List Int → List Int
  | [] => []
  | x :: ls => (last + x) :: rsts (last + x) ls
def restP (b : List Int) : List Int := b.getLastD 0 :: rsts (b.getLastD 0) (b.drop 1).dropLast.reverse
def ptP (ws : List Int) (os : List (List Int)) (b : List Int) : List Int := (List.range ws.length).map fun c => sm (b.zip (cornersP ws os)) fun C => gd C c
theorem ls1 {α : Type} {l : List α} (h : l.length = 1) : ∃ a, l = [a] := List.length_eq_one_iff.mp h
theorem ls2 {α : Type} {l : List α} (h : l.length = 2) : ∃ a b, l = [a, b] := by
  match l, h with
  | [a, b], _ => exact ⟨a, b, rfl⟩
theorem ls3 {α : Type} {l : List α} (h : l.length = 3) : ∃ a b c, l = [a, b, c] := by
  match l, h with
  | [a, b, c], _ => exact ⟨a, b, c, rfl⟩
theorem ls4 {α : Type} {l : List α} (h : l.length = 4) : ∃ a b c d, l = [a, b, c, d] := by
  match l, h with
  | [a, b, c, d], _ => exact ⟨a, b, c, d, rfl⟩
theorem r3 : List.range 3 = [0, 1, 2] := rfl
theorem r2 : List.range 2 = [0, 1] := rfl
theorem r1 : List.range 1 = [0] := rfl
theorem pt_eq1 : ∀ s ∈ sh1, ∀ (w : Int) (b : List Int), b.length = s.length → addz s.tail (restP b) ([w].map (· * b.sum)) = ptP [w] s.tail b := by
  intro s hs w b hb
  simp only [sh1, List.mem_cons, List.not_mem_nil, or_false] at hs
  rcases hs with rfl | rfl
  · obtain ⟨p, rfl⟩ := ls1 hb
    simp [addz, adds, restP, rsts, ptP, cornersP, crs, rz, gd, sm, r1]
    try grind
  · obtain ⟨p, q, rfl⟩ := ls2 hb
    simp [addz, adds, restP, rsts, ptP, cornersP, crs, rz, gd, sm, r1]
    try grind
theorem pt_eq2 : ∀ s ∈ sh2, ∀ (w v : Int) (b : List Int), b.length = s.length → addz s.tail (restP b) ([w, v].map (· * b.sum)) = ptP [w, v] s.tail b := by
  intro s hs w v b hb
  simp only [sh2, List.mem_cons, List.not_mem_nil, or_false] at hs
  rcases hs with rfl | rfl | rfl | rfl | rfl | rfl <;>
  · first
    | (obtain ⟨p, rfl⟩ := ls1 hb)
    | (obtain ⟨p, q, rfl⟩ := ls2 hb)
    | (obtain ⟨p, q, r, rfl⟩ := ls3 hb)
    | (obtain ⟨p, q, r, t, rfl⟩ := ls4 hb)
    simp [addz, adds, restP, rsts, ptP, cornersP, crs, rz, gd, sm, r2]
    try grind
theorem pt_eq3 : ∀ s ∈ sh3, ∀ (w v u : Int) (b : List Int), b.length = s.length → addz s.tail (restP b) ([w, v, u].map (· * b.sum)) = ptP [w, v, u] s.tail b := by
  intro s hs w v u b hb
  simp only [sh3, List.mem_cons, List.not_mem_nil, or_false] at hs
  rcases hs with rfl | rfl | rfl | rfl | rfl | rfl | rfl | rfl | rfl | rfl | rfl | rfl | rfl | rfl | rfl | rfl | rfl | rfl | rfl | rfl | rfl | rfl | rfl | rfl | rfl | rfl <;>
  · first
    | (obtain ⟨p, rfl⟩ := ls1 hb)
    | (obtain ⟨p, q, rfl⟩ := ls2 hb)
    | (obtain ⟨p, q, r, rfl⟩ := ls3 hb)
    | (obtain ⟨p, q, r, t, rfl⟩ := ls4 hb)
    simp [addz, adds, restP, rsts, ptP, cornersP, crs, rz, gd, sm, r3]
    try grind
theorem pt_eq {ws b : List Int} {s : List (List Int)} (hn : ws.length ∈ [1, 2, 3]) (hs : s ∈ sh ws.length) (hb : b.length = s.length) : addz s.tail (restP b) (ws.map (· * b.sum)) = ptP ws s.tail b := by
  simp only [List.mem_cons, List.not_mem_nil, or_false] at hn
  rcases hn with h | h | h
  · rw [h] at hs
    obtain ⟨w, rfl⟩ := ls1 h
    exact pt_eq1 s hs w b hb
  · rw [h] at hs
    obtain ⟨w, v, rfl⟩ := ls2 h
    exact pt_eq2 s hs w v b hb
  · rw [h] at hs
    obtain ⟨w, v, u, rfl⟩ := ls3 h
    exact pt_eq3 s hs w v u b hb
theorem rsts_bd {S : Int} : ∀ (ls : List Int) (a : Int), 0 ≤ a → (∀ x ∈ ls, 0 ≤ x) → a + ls.sum ≤ S → ∀ t ∈ rsts a ls, 0 ≤ t ∧ t ≤ S
  | [], a, _, _, _, t, ht => by simp [rsts] at ht
  | x :: ls, a, h0, h, hs, t, ht => by
    have hx := h x (by simp)
    have hn : 0 ≤ ls.sum := by
      clear ht hs
      induction ls with
      | nil => simp
      | cons y ls ih =>
        have := h y (by simp)
        have := ih fun z hz => h z (by simp at hz ⊢; rcases hz with rfl | hz <;> simp_all)
        simp; omega
    rw [List.sum_cons] at hs
    simp only [rsts, List.mem_cons] at ht
    rcases ht with rfl | ht
    · omega
    · exact rsts_bd ls (a + x) (by omega) (fun y hy => h y (List.mem_cons_of_mem _ hy)) (by omega) t ht
theorem restP_bd {b : List Int} (h : ∀ x ∈ b, 0 ≤ x) (h0 : b ≠ []) : ∀ t ∈ restP b, 0 ≤ t ∧ t ≤ b.sum := by
  intro t ht
  match b, h0, h, ht with
  | [p], _, h, ht =>
    simp [restP, rsts] at ht
    have := h p (by simp)
    simp; omega
  | p :: q :: r, _, h, ht =>
    have e : (p :: q :: r).sum = p + ((q :: r).dropLast.sum + (q :: r).getLast (by simp)) := by
      have := List.dropLast_concat_getLast (l := q :: r) (by simp)
      have e2 : (q :: r).sum = ((q :: r).dropLast ++ [(q :: r).getLast (by simp)]).sum := by rw [this]
      rw [List.sum_append] at e2
      rw [List.sum_cons, e2]
      simp
    have hl : (p :: q :: r).getLastD 0 = (q :: r).getLast (by simp) := by simp [List.getLastD_cons, List.getLastD]
    have hp := h p (by simp)
    have hq := h _ (List.mem_cons_of_mem p (List.getLast_mem (l := q :: r) (by simp)))
    have hd : ∀ x ∈ (q :: r).dropLast, 0 ≤ x := fun x hx => h x (List.mem_cons_of_mem _ (List.dropLast_subset _ hx))
    have nn : ∀ l : List Int, (∀ x ∈ l, 0 ≤ x) → 0 ≤ l.sum := fun l => by
      induction l with
      | nil => intro _; simp
      | cons y l ih => intro h; rw [List.sum_cons]; have := h y (by simp); have := ih fun x hx => h x (List.mem_cons_of_mem _ hx); omega
    have hdn := nn _ hd
    unfold restP at ht
    rw [hl] at ht
    simp only [List.mem_cons] at ht
    rcases ht with rfl | ht
    · rw [e]; omega
    · exact rsts_bd _ _ hq (fun x hx => hd x (by simpa using hx)) (by rw [e]; simp only [List.drop_one, List.tail_cons, List.sum_reverse]; omega) t ht
end MR
end
section
set_option Elab.async false
set_option linter.all false
set_option maxHeartbeats 1000000
set_option maxRecDepth 20000
set_option exponentiation.threshold 30000
namespace MR
open PySem PySem.Spec PyProof.Rows L2 VL MF
theorem getLastD_mem {b : List Int} (h : b ≠ []) : b.getLastD 0 = b.getLast h := by
  obtain ⟨x, l, rfl⟩ := List.exists_cons_of_ne_nil h
  rw [List.getLastD_eq_getLast?, List.getLast?_eq_some_getLast h]; rfl
theorem nnS : ∀ l : List Int, (∀ x ∈ l, 0 ≤ x) → 0 ≤ l.sum
  | [], _ => by simp
  | y :: l, h => by rw [List.sum_cons]; have := h y (by simp); have := nnS l fun x hx => h x (List.mem_cons_of_mem _ hx); omega
theorem last_sum {b : List Int} (h : b ≠ []) (hn : ∀ x ∈ b, 0 ≤ x) : 0 ≤ b.getLastD 0 ∧ b.getLastD 0 + ((b.drop 1).dropLast.reverse).sum ≤ b.sum := by
  refine ⟨by rw [getLastD_mem h]; exact hn _ (List.getLast_mem h), ?_⟩
  rw [List.sum_reverse]
  match b, h, hn with
  | [p], _, hn => simp
  | p :: q :: r, h, hn =>
    have e := List.dropLast_concat_getLast (l := q :: r) (by simp)
    have e2 : (q :: r).sum = ((q :: r).dropLast ++ [(q :: r).getLast (by simp)]).sum := by rw [e]
    rw [List.sum_append] at e2
    have hp := hn p (by simp)
    have hl : (p :: q :: r).getLastD 0 = (q :: r).getLast (by simp) := by rw [getLastD_mem h]; simp
    rw [List.sum_cons, e2, hl]
    simp
    omega
theorem G.sh {ws o : List Int} {os : List (List Int)} (g : G ws (o :: os)) : (∀ x ∈ o :: os, ∀ c ∈ x, 0 ≤ c ∧ c < ws.length) ∧ os.flatten.length ≤ 3 ∧ os.length ≤ 3 := by
  have h := g.cls
  have h3 := h.n3
  refine ⟨fun x hx c hc => h.val hx c hc, ?_, h.olen⟩
  have := h.flen
  simp at this
  simp; omega
theorem v_readings_at (μ : Mu) {S : Int} (s : SOk S) {ws o ts : List Int} {os : List (List Int)} (g : G ws (o :: os)) (n : Nat) (hn : μ[n]? = some (rw_ S ts)) (ht : ∀ t ∈ ts, 0 ≤ t ∧ t ≤ S) : m_readings_at μ [.d (cl ws (o :: os)), .loc n] = some (.d (.tuple (rw_ S (addz os ts (ws.map (· * S))))), μ) := by
  have h3 := g.cls.n3
  have sp := s.pos
  obtain ⟨hv, hf, _⟩ := g.sh
  have e1 := lcE0 (t := tNm 8) (fe := q1_readings_at) (all := nI ws) (ρ := wipeR [some (.d (cl ws (o :: os))), some (.loc n), some (.d (tI ws)), some (.d (tL (o :: os))), none, none, none, none, none] [8]) (μ := μ) PyData.int (fun w => fr (L (w * S) S)) ws (fun x hx => ⟨_, rfl, by simp [q1_readings_at, wipeR, L_whole s, fr]⟩)
  have e1' : ws.map (fun w => fr (L (w * S) S)) = rw_ S (ws.map (· * S)) := by simp [rw_, Function.comp_def]
  rw [e1', kE] at e1
  have hvs : ∀ x ∈ ws.map (· * S), 0 ≤ x ∧ x ≤ 4 * S := fun x hx => by
    obtain ⟨w, hw, rfl⟩ := List.mem_map.mp hx
    have := g.hw w hw
    exact ⟨Int.mul_nonneg this.1 (by omega), Int.mul_le_mul_of_nonneg_right this.2 (by omega)⟩
  have hb : 4 * S + os.flatten.length * S ≤ 99 * S := by
    have := Int.mul_le_mul_of_nonneg_right (a := (os.flatten.length : Int)) (b := 3) (c := S) (by omega) (by omega)
    omega
  obtain ⟨q5, q6, q7, e2⟩ := ra_outer μ s n (some (.d (cl ws (o :: os)))) (some (.d (tI ws))) (some (.d (tL (o :: os)))) none (rw_ S ts) hn os ts (ws.map (· * S)) (4 * S) none none none (fun x hx c hc => by
    have := hv x (List.mem_cons_of_mem _ hx) c hc
    simpa using this) ht hvs hb
  have hcut : VL.cutD (PyData.tuple (nI o) :: os.map tI) (some 1) none = os.map tI := cut1 _
  have hlen : (rw_ S (ws.map (· * S))).length ≤ 1000000 := by rw [rw_len]; simp; omega
  have hn2 : (μ ++ [rw_ S (ws.map (· * S))])[n]? = some (rw_ S ts) := by rw [List.getElem?_append_left (by exact (List.getElem?_eq_some_iff.mp hn).1)]; exact hn
  simp only [cl, tL, tI, List.map_cons] at e1 e2 ⊢
  generalize hR : rw_ S (ws.map (· * S)) = R at *
  generalize hQ : rw_ S (addz os ts (ws.map (· * S))) = Q at *
  simp [m_readings_at, b_readings_at, fnM, e1, hlen, hcut, hn2, e2]
theorem cut_rw (S : Int) (b : List Int) (h : b ≠ []) : VL.cutD (rw_ S b) (some 1) (some (-1)) = rw_ S (b.drop 1).dropLast := by
  rw [cut1m _ (by simpa [rw_] using h)]
  simp [rw_, List.map_dropLast]
theorem rev_rw (S : Int) (b : List Int) : (rw_ S b).reverse = rw_ S b.reverse := by simp [rw_]
theorem rw_last {S : Int} {b : List Int} (h : b ≠ []) : atI (rw_ S b) (-1) = some (fr (L (b.getLastD 0) S)) := by
  obtain ⟨x, l, rfl⟩ := List.exists_cons_of_ne_nil h
  have := atI_last (rw_ S l) (fr (L x S))
  rw [getLastD_mem h]
  have e : ((x :: l).map fun x => fr (L x S)).getLast (by simp) = (fun x => fr (L x S)) ((x :: l).getLast (by simp)) := List.getLast_map _
  simp only [rw_, List.map_cons] at this e ⊢
  rw [this, e]
theorem v_point_go (μ : Mu) {S : Int} (s : SOk S) (a b : Option Vw) (all : List PyData) : ∀ (ls acc : List Int) (w : Int) (q : Option Vw), (∀ x ∈ ls, 0 ≤ x) → 0 ≤ w → w + ls.sum ≤ S → acc.length + ls.length ≤ 1000 →
    ∃ q', VL.forM (tNm 3) w1_point none all (rw_ S ls) [a, b, some (.loc μ.length), q] (μ ++ [rw_ S (acc ++ [w])]) = some (.nx [a, b, some (.loc μ.length), q'] (μ ++ [rw_ S (acc ++ w :: rsts w ls)]))
  | [], acc, w, q, _, _, _, _ => ⟨q, by simp [VL.forM, srcOk_none, rw_, rsts]⟩
  | x :: ls, acc, w, q, h, h0, hs, hl => by
    have hx := h x (by simp)
    have hn := sum_nn ls fun y hy => h y (List.mem_cons_of_mem _ hy)
    rw [List.sum_cons] at hs
    simp only [List.length_cons] at hl
    have sp := s.pos
    obtain ⟨q', e⟩ := v_point_go μ s a b all ls (acc ++ [w]) (w + x) (some (.d (fr (L x S)))) (fun y hy => h y (List.mem_cons_of_mem _ hy)) (by omega) (by omega) (by simp; omega)
    refine ⟨q', ?_⟩
    have e1 := v_sumS (μ ++ [rw_ S (acc ++ [w])]) s (a := w) (c := x) ⟨h0, by omega⟩ ⟨hx, by omega⟩
    have e2 : atI (rw_ S (acc ++ [w])) (-1) = some (fr (L w S)) := by rw [rw_last (by simp)]; simp
    have l1 : (rw_ S (acc ++ [w])).length < 1000000 := by rw [rw_len]; simp; omega
    have e3 : rw_ S (acc ++ [w]) ++ [fr (L (w + x) S)] = rw_ S (acc ++ [w] ++ [w + x]) := by simp [rw_]
    have e4 := set_end μ (rw_ S (acc ++ [w])) (rw_ S (acc ++ [w] ++ [w + x]))
    have e5 : acc ++ w :: rsts w (x :: ls) = acc ++ [w] ++ (w + x) :: rsts (w + x) ls := by simp [rsts]
    rw [e5, ← e]
    show VL.forM _ _ _ _ (fr (L x S) :: rw_ S ls) _ _ = _
    generalize hA : rw_ S (acc ++ [w]) = A at *
    generalize hB : rw_ S (acc ++ [w] ++ [w + x]) = B at *
    simp [VL.forM, srcOk_none, w1_point, e2, e1, l1, e3, e4]
theorem v_point (μ : Mu) {ws o : List Int} {os : List (List Int)} (g : G ws (o :: os)) {S : Int} {b : List Int} (w : Wt S b (o :: os).length) : m_point μ [.d (cl ws (o :: os)), .d (.tuple (rw_ S b))] = some (.d (.tuple (rw_ S (ptP ws os b))), μ) := by
  have hb0 : b ≠ [] := fun h => by have := w.len; rw [h] at this; simp at this
  have r1 := v_check_class μ g.cls
  have r2 := v_check_weights (ws := ws) μ w
  have hsum := w.sum
  have hlast : 0 ≤ b.getLastD 0 ∧ b.getLastD 0 + ((b.drop 1).dropLast.reverse).sum ≤ S := by rw [← hsum]; exact last_sum hb0 w.nn
  obtain ⟨q', e⟩ := v_point_go μ w.s (some (.d (cl ws (o :: os)))) (some (.d (.tuple (rw_ S b)))) (rw_ S (b.drop 1).dropLast.reverse) (b.drop 1).dropLast.reverse [] (b.getLastD 0) none (fun x hx => by
    have hx := List.mem_reverse.mp hx
    exact w.nn x (List.mem_of_mem_drop (List.dropLast_subset _ hx))) hlast.1 hlast.2 (by
    have := w.len; have := w.k4
    simp; omega)
  have hp := pt_eq (b := b) g.hn g.hs w.len
  rw [List.tail_cons, hsum] at hp
  have hr := v_readings_at (μ ++ [rw_ S (restP b)]) w.s g μ.length (ts := restP b) (by simp) (by rw [← hsum]; exact restP_bd w.nn hb0)
  rw [hp] at hr
  have a1 := rw_last (S := S) hb0
  have c1 := cut_rw S b hb0
  have c2 := rev_rw S (b.drop 1).dropLast
  have e' : rw_ S ([] ++ [b.getLastD 0]) = [fr (L (b.getLastD 0) S)] := by simp [rw_]
  rw [e'] at e
  rw [show [] ++ b.getLastD 0 :: rsts (b.getLastD 0) (b.drop 1).dropLast.reverse = restP b from rfl] at e
  generalize hA : rw_ S (b.drop 1).dropLast.reverse = A at *
  generalize hB : rw_ S (restP b) = B at *
  generalize hC : rw_ S (ptP ws os b) = C at *
  generalize hD : rw_ S (b.drop 1).dropLast = D at *
  generalize hE : rw_ S b = E at *
  generalize b.getLastD 0 = z at *
  simp [m_point, b_point, fnM, r1, r2, a1, c1, c2, e, hr]
end MR
end
section
set_option Elab.async false
set_option linter.all false
set_option maxHeartbeats 1000000
set_option maxRecDepth 20000
set_option exponentiation.threshold 30000
namespace MR
open PySem PySem.Spec PyProof.Rows L2 VL MF
def hdq (q : List (Nat × Int)) : Nat × Int := q.headD (0, 0)
abbrev LQ := List (Int × List (Nat × Int))
def encQ (S : Int) (p : Int × List (Nat × Int)) : PyData := .tuple [fr (L p.1 S), .tuple (p.2.map prD)]
def toG (l : LQ) : List (Int × Nat) := l.map fun p => (p.1, (hdq p.2).1)
theorem zip_q (S : Int) (b : List Int) (ld : List (List (Nat × Int))) : zipD (rw_ S b) (lsD ld) = (b.zip ld).map (encQ S) := by
  unfold zipD rw_ lsD
  rw [List.zip_map, List.map_map]
  rfl
theorem atI_q {q : List (Nat × Int)} (h : q ≠ []) : atI (q.map prD) 0 = some (.tuple [.int (hdq q).1, .int (hdq q).2]) := by
  obtain ⟨p, r, rfl⟩ := List.exists_cons_of_ne_nil h
  rw [List.map_cons, atI0]; rfl
/-- what weights and leads need -/
structure LdOk (K : Nat) (l : LQ) (S : Int) : Prop where
  s : SOk S
  sum : (l.map (·.1)).sum = S
  few : l.length ≤ 1000
  ok : ∀ p ∈ l, 0 ≤ p.1 ∧ p.2 ≠ [] ∧ (hdq p.2).1 < K ∧ ((hdq p.2).2 = 0 ∨ (hdq p.2).2 = 1)
def wtP (l : LQ) : Int := sm l fun q => (hdq q).2
end MR
end
section
set_option Elab.async false
set_option linter.all false
set_option maxHeartbeats 1000000
set_option maxRecDepth 20000
set_option exponentiation.threshold 30000
namespace MR
open PySem PySem.Spec PyProof.Rows L2 VL MF
def selQ (l : LQ) (k : Nat) : List Int := (l.filter fun p => decide ((hdq p.2).1 = k)).map (·.1)
theorem sel_at (l : LQ) (k : Nat) : (selQ l k).sum = at_ (toG l) k := by
  unfold selQ at_ toG
  rw [List.filter_map, List.map_map]
  rfl
theorem sel_nn {l : LQ} (h : ∀ p ∈ l, 0 ≤ p.1) (k : Nat) : ∀ x ∈ selQ l k, 0 ≤ x := fun x hx => by
  obtain ⟨p, hp, rfl⟩ := List.mem_map.mp hx
  exact h p (List.mem_filter.mp hp).1
theorem at_le {l : LQ} (h : ∀ p ∈ l, 0 ≤ p.1) (k : Nat) : at_ (toG l) k ≤ (l.map (·.1)).sum := by
  induction l with
  | nil => simp [at_, toG]
  | cons p l ih =>
    have h1 := h p (by simp)
    have h2 := ih fun q hq => h q (List.mem_cons_of_mem _ hq)
    show at_ ((p.1, (hdq p.2).1) :: toG l) k ≤ _
    rw [at_cons, List.map_cons, List.sum_cons]
    split <;> omega
theorem wt_le {S : Int} {K : Nat} {l : LQ} (h : LdOk K l S) : 0 ≤ wtP l ∧ wtP l ≤ S := by
  constructor
  · have := sm_le (F := fun _ => 0) (H := fun q => (hdq q).2) (ps := l) fun p hp => ⟨(h.ok p hp).1, by have := (h.ok p hp).2.2.2; omega⟩
    rw [sm_zero] at this
    exact this
  · have := sm_le (F := fun q => (hdq q).2) (H := fun _ => 1) (ps := l) fun p hp => ⟨(h.ok p hp).1, by have := (h.ok p hp).2.2.2; omega⟩
    rw [sm_one, h.sum] at this
    exact this
theorem enR (S : Int) (v : List Int) : enumD (rw_ S v) = (List.range v.length).map fun (i : Nat) => PyData.tuple [.int (i : Nat), fr (L (gd v i) S)] := by
  apply List.ext_getElem
  · simp [enumD, rw_]
  · intro i h1 h2
    have hi : i < v.length := by simpa [enumD, rw_] using h1
    simp [enumD, rw_, gd, hi]
end MR
end
section
set_option Elab.async false
set_option linter.all false
set_option maxHeartbeats 1000000
set_option maxRecDepth 20000
set_option exponentiation.threshold 30000
namespace MR
open PySem PySem.Spec PyProof.Rows L2 VL MF
theorem corner_facts : ∀ n ∈ [1, 2, 3], ∀ s ∈ sh n, ∀ C ∈ cornersP (zs n) s.tail, ∀ i ∈ List.range n, 0 ≤ gd C i ∧ gd C i ≤ 1 ∧ ((i : Int) ∈ s.headD [] → gd C i = 0) := by decide +kernel
theorem split_facts : ∀ n ∈ [1, 2, 3], ∀ s ∈ sh n, ∀ i ∈ List.range n, ((i : Int) ∈ s.tail.flatten ↔ ¬ (i : Int) ∈ s.headD []) := by decide +kernel
theorem G.corner {ws o : List Int} {os : List (List Int)} (g : G ws (o :: os)) {C : List Int} (hC : C ∈ cornersP ws os) {i : Nat} (hi : i < ws.length) : gd ws i ≤ gd C i ∧ gd C i ≤ gd ws i + (if (i : Int) ∈ o then 0 else 1) := by
  have e : cornersP ws os = (cornersP (zs ws.length) os).map (ad ws) := by
    rw [← cornersP_ad (by rw [zs_len]), ad_zs]
  rw [e] at hC
  obtain ⟨D, hD, rfl⟩ := List.mem_map.mp hC
  have hl : D.length = ws.length := by rw [cornersP_len hD, zs_len]
  have f := corner_facts _ g.hn _ g.hs D hD i (by simpa using hi)
  rw [gd_ad hl.symm hi]
  simp only [List.headD_cons] at f
  split
  · rename_i h; have := f.2.2 h; omega
  · omega
theorem gd_ptP {ws : List Int} {os : List (List Int)} {b : List Int} {c : Nat} (hc : c < ws.length) : gd (ptP ws os b) c = sm (b.zip (cornersP ws os)) fun C => gd C c := by
  simp [gd, ptP, List.getD_eq_getElem?_getD, hc]
theorem ptP_len (ws : List Int) (os : List (List Int)) (b : List Int) : (ptP ws os b).length = ws.length := by simp [ptP]
theorem zip_fst {α : Type} {b : List Int} {cs : List α} (h : b.length = cs.length) : (b.zip cs).map (·.1) = b := by
  rw [List.map_fst_zip]; omega
theorem G.pt {ws o : List Int} {os : List (List Int)} (g : G ws (o :: os)) {S : Int} {b : List Int} (w : Wt S b (o :: os).length) {c : Nat} (hc : c < ws.length) : gd ws c * S ≤ gd (ptP ws os b) c ∧ gd (ptP ws os b) c ≤ (gd ws c + (if (c : Int) ∈ o then 0 else 1)) * S := by
  rw [gd_ptP hc]
  have hl : b.length = (cornersP ws os).length := by rw [w.len, cornersP_n]; simp
  have hs : ((b.zip (cornersP ws os)).map (·.1)).sum = S := by rw [zip_fst hl, w.sum]
  have hp : ∀ p ∈ b.zip (cornersP ws os), 0 ≤ p.1 ∧ gd ws c ≤ gd p.2 c ∧ gd p.2 c ≤ gd ws c + (if (c : Int) ∈ o then 0 else 1) := fun p hp => by
    have h1 := List.of_mem_zip hp
    exact ⟨w.nn _ h1.1, g.corner h1.2 hc⟩
  constructor
  · have := sm_le (F := fun _ => gd ws c) (H := fun C => gd C c) (ps := b.zip (cornersP ws os)) fun p h => ⟨(hp p h).1, (hp p h).2.1⟩
    rw [sm_const, hs, Int.mul_comm] at this
    exact this
  · have := sm_le (F := fun C => gd C c) (H := fun _ => gd ws c + (if (c : Int) ∈ o then 0 else 1)) (ps := b.zip (cornersP ws os)) fun p h => ⟨(hp p h).1, (hp p h).2.2⟩
    rw [sm_const, hs, Int.mul_comm S] at this
    exact this
theorem G.ptNm {ws o : List Int} {os : List (List Int)} (g : G ws (o :: os)) {S : Int} {b : List Int} (w : Wt S b (o :: os).length) : ∀ x ∈ ptP ws os b, Nm S x := fun x hx => by
  obtain ⟨c, hc, rfl⟩ := mem_gd hx
  rw [ptP_len] at hc
  have h := g.pt w hc
  have hw := g.hw _ (gd_mem hc)
  have sp := w.s.pos
  have h1 : 0 ≤ gd ws c * S := Int.mul_nonneg hw.1 (by omega)
  have h2 : (gd ws c + (if (c : Int) ∈ o then 0 else 1)) * S ≤ 5 * S := Int.mul_le_mul_of_nonneg_right (by split <;> omega) (by omega)
  exact ⟨by omega, by omega⟩
def goneP (v : List Int) (t : Int) : Mv → List Int
  | .w => v.map (· + t)
  | .d lot => zr v lot
theorem ldP_mem {c : List Int} {mv : Mv} {gs : List (List Int)} {p : Nat × Int} (h : p ∈ ldP c mv gs) : nx c mv p.2 = gdl gs p.1 ∧ p.1 < gs.length ∧ (p.2 = 0 ∨ p.2 = 1) := by
  obtain ⟨h1, h2⟩ := List.mem_filter.mp h
  refine ⟨of_decide_eq_true h2, prs_lt h1, ?_⟩
  obtain ⟨i, _, h3⟩ := List.mem_flatMap.mp h1
  obtain ⟨k, hk, rfl⟩ := List.mem_map.mp h3
  cases mv with
  | w => simp [ks] at hk; exact hk
  | d lot => simp [ks] at hk; exact .inl hk
theorem hdq_mem {q : List (Nat × Int)} (h : q ≠ []) : hdq q ∈ q := by
  obtain ⟨p, r, rfl⟩ := List.exists_cons_of_ne_nil h
  simp [hdq]
theorem gd_map {v : List Int} {t : Int} {c : Nat} (h : c < v.length) : gd (v.map (· + t)) c = gd v c + t := by simp [gd, List.getD_eq_getElem?_getD, h]
theorem gd_gone {v : List Int} {t : Int} {mv : Mv} {c : Nat} (h : c < v.length) : gd (goneP v t mv) c = match mv with
    | .w => gd v c + t
    | .d lot => if (c : Int) ∈ lot then 0 else gd v c := by
  cases mv with
  | w => exact gd_map h
  | d lot => exact gd_zr lot h
theorem gone_len (v : List Int) (t : Int) (mv : Mv) : (goneP v t mv).length = v.length := by
  cases mv with
  | w => simp [goneP]
  | d lot => exact zr_len _ _
theorem nx_gone (C : List Int) (mv : Mv) (k : Int) : nx C mv k = goneP C k mv := by cases mv <;> rfl
/-- sums of corners that lead on -/
theorem sm_gone {α : Type} (mv : Mv) (l : List (Int × α)) (F : α → List Int) (k : α → Int) (n c : Nat) (hF : ∀ p ∈ l, (F p.2).length = n) (hc : c < n) :
    sm l (fun x => gd (nx (F x) mv (k x)) c) = match mv with
      | .w => sm l (fun x => gd (F x) c) + sm l k
      | .d lot => if (c : Int) ∈ lot then 0 else sm l fun x => gd (F x) c := by
  have e : sm l (fun x => gd (nx (F x) mv (k x)) c) = sm l (fun x => match mv with
    | .w => gd (F x) c + k x
    | .d lot => if (c : Int) ∈ lot then 0 else gd (F x) c) := sm_congr fun p hp => by rw [nx_gone, gd_gone (by rw [hF p hp]; exact hc)]
  rw [e]
  cases mv with
  | w => exact sm_add _ _ _
  | d lot =>
    simp only
    split
    · exact sm_zero _
    · rfl
section
variable {ws o ws2 o2 : List Int} {os os2 : List (List Int)} {mv : Mv}
theorem ld_ok (g : G ws (o :: os)) (h4 : mv = .w → no4 ws o) (hm : mvIn ws.length mv) {S : Int} {b : List Int} (w : Wt S b (o :: os).length) : LdOk (sgP (o :: os) mv).length (b.zip (LP ws.length (o :: os) mv)) S := by
  have f := mv_facts _ g.hn _ g.hs mv (mvIn_mem hm)
  have g2 := g.step h4 hm
  have sf2 := sh_facts _ g2.hn _ g2.hs
  have hl : b.length = (LP ws.length (o :: os) mv).length := by rw [w.len, f.2.2.2.1]
  refine ⟨w.s, by rw [zip_fst hl, w.sum], by rw [List.length_zip]; have := w.len; have := w.k4; omega, fun p hp => ?_⟩
  have h1 := List.of_mem_zip hp
  have hne : p.2 ≠ [] := fun z => f.2.1 (by rw [← z]; exact h1.2)
  refine ⟨w.nn _ h1.1, hne, ?_⟩
  rw [← leads_eq] at h1
  obtain ⟨C, hC, e⟩ := List.mem_map.mp h1.2
  have := ldP_mem (by rw [e]; exact hdq_mem hne)
  refine ⟨?_, this.2.2⟩
  have h2 := this.2.1
  rw [cornersP_n] at h2
  have : (sgP (o :: os) mv) ≠ [] := sf2.1
  obtain ⟨x, y, e2⟩ := List.exists_cons_of_ne_nil this
  rw [e2] at h2 ⊢
  simpa using h2
theorem wt_next (g : G ws (o :: os)) (h4 : mv = .w → no4 ws o) (hm : mvIn ws.length mv) {S : Int} {b : List Int} (w : Wt S b (o :: os).length) : Wt S (grp (sgP (o :: os) mv).length (toG (b.zip (LP ws.length (o :: os) mv)))) (sgP (o :: os) mv).length := by
  have h := ld_ok g h4 hm w
  have g2 := g.step h4 hm
  have sf2 := sh_facts _ g2.hn _ g2.hs
  refine ⟨w.s, grp_nn fun p hp => ?_, ?_, grp_len _ _, sf2.2.2.2.2.2⟩
  · obtain ⟨q, hq, rfl⟩ := List.mem_map.mp hp
    exact (h.ok q hq).1
  · rw [grp_sum fun p hp => ?_]
    · have e : (toG (b.zip (LP ws.length (o :: os) mv))).map (·.1) = (b.zip (LP ws.length (o :: os) mv)).map (·.1) := by simp [toG, Function.comp_def]
      rw [e, h.sum]
    · obtain ⟨q, hq, rfl⟩ := List.mem_map.mp hp
      exact (h.ok q hq).2.2.1
theorem zip_map_snd {α β : Type} (f : α → β) : ∀ (b : List Int) (cs : List α), b.zip (cs.map f) = (b.zip cs).map fun p => (p.1, f p.2) := fun b cs => by
  rw [List.zip_map_right]
  rfl
theorem pt_step (g : G ws (o :: os)) (h4 : mv = .w → no4 ws o) (hm : mvIn ws.length mv) {S : Int} {b : List Int} (w : Wt S b (o :: os).length) :
    ptP (wgP ws (o :: os) mv) (sgP (o :: os) mv).tail (grp (sgP (o :: os) mv).length (toG (b.zip (LP ws.length (o :: os) mv)))) = goneP (ptP ws os b) (wtP (b.zip (LP ws.length (o :: os) mv))) mv := by
  have h := ld_ok g h4 hm w
  have f := mv_facts _ g.hn _ g.hs mv (mvIn_mem hm)
  have g2 := g.step h4 hm
  have sf2 := sh_facts _ g2.hn _ g2.hs
  have hl := wg_len ws (o :: os) mv
  have hle := leads_eq (ws := ws) (s := o :: os) mv
  have hgs : (cornersP (wgP ws (o :: os) mv) (sgP (o :: os) mv).tail).length = (sgP (o :: os) mv).length := by
    rw [cornersP_n]
    obtain ⟨x, y, e2⟩ := List.exists_cons_of_ne_nil sf2.1
    rw [e2]; simp
  apply gd_ext
  · rw [gone_len, ptP_len, ptP_len, hl]
  · intro c hc
    rw [ptP_len, hl] at hc
    rw [gd_ptP (by rw [hl]; exact hc), gd_gone (by rw [ptP_len]; exact hc), gd_ptP hc]
    have hne := f.2.1
    have hok : ∀ p ∈ b.zip (LP ws.length (o :: os) mv), (hdq p.2).1 < (sgP (o :: os) mv).length := fun p hp => (h.ok p hp).2.2.1
    rw [← hle] at hne hok ⊢
    rw [← hgs] at hok ⊢
    generalize hg : cornersP (wgP ws (o :: os) mv) (sgP (o :: os) mv).tail = gs at *
    rw [sm_grp _ _ (fun C => gd C c) (fun p hp => by
      obtain ⟨q, hq, rfl⟩ := List.mem_map.mp hp
      exact hok q hq)]
    have e1 : toG (b.zip (leadsP ws (o :: os).tail mv gs)) = (b.zip (cornersP ws os)).map fun p => (p.1, (hdq (ldP p.2 mv gs)).1) := by
      unfold toG leadsP
      rw [List.tail_cons, zip_map_snd, List.map_map]
      rfl
    have e2 : wtP (b.zip (leadsP ws (o :: os).tail mv gs)) = sm (b.zip (cornersP ws os)) fun C => (hdq (ldP C mv gs)).2 := by
      unfold wtP leadsP
      rw [List.tail_cons, zip_map_snd]
      exact sm_map (fun C => ldP C mv gs) (fun q => (hdq q).2) _
    rw [e1, e2, sm_map (fun C => (hdq (ldP C mv gs)).1) (fun j => gd (gs.getD j []) c)]
    have e3 : sm (b.zip (cornersP ws os)) (fun C => gd (gs.getD (hdq (ldP C mv gs)).1 []) c) = sm (b.zip (cornersP ws os)) fun C => gd (nx C mv (hdq (ldP C mv gs)).2) c := sm_congr fun p hp => by
      have h1 := (List.of_mem_zip hp).2
      have hn : ldP p.2 mv gs ≠ [] := fun z => hne (by rw [← z]; exact List.mem_map.mpr ⟨p.2, h1, rfl⟩)
      rw [(ldP_mem (hdq_mem hn)).1]
      rfl
    rw [e3]
    exact sm_gone mv _ (fun C => C) _ ws.length c (fun p hp => cornersP_len (List.of_mem_zip hp).2) hc
/-- a point of the class for a point of the moved class -/
theorem pt_back (gs : List (List Int)) {S : Int} {b f : List Int} {m : List (Int × Nat × Nat × Int)} (hgs : gs = cornersP ws2 os2) (hw : ws2.length = ws.length) (hb : b.length = gs.length)
    (hm : (m.map fun p => (p.1, p.2.1)) = (List.range gs.length).map fun j => (gd b j, j))
    (hk : ∀ p ∈ m, p.2.2.1 < (cornersP ws os).length ∧ nx (gdl (cornersP ws os) p.2.2.1) mv p.2.2.2 = gdl gs p.2.1)
    (hf : f = grp (cornersP ws os).length (m.map fun p => (p.1, p.2.2.1))) : goneP (ptP ws os f) (sm m fun q => q.2.2) mv = ptP ws2 os2 b := by
  apply gd_ext
  · rw [gone_len, ptP_len, ptP_len, hw]
  · intro c hc
    rw [gone_len, ptP_len] at hc
    rw [gd_ptP (by rw [hw]; exact hc), gd_gone (by rw [ptP_len]; exact hc), gd_ptP hc, ← hgs]
    have e0 : b = (List.range gs.length).map (gd b) := by
      apply List.ext_getElem
      · simp [hb]
      · intro i h1 h2
        simp [gd, h1]
    have e1 : sm (b.zip gs) (fun C => gd C c) = sm m fun q => gd (gdl gs q.1) c := by
      rw [e0, zip_rng (gd b) gs [], ← sm_map (fun q : Nat × Nat × Int => q.1) (fun j => gd (gdl gs j) c) m, hm]
      unfold sm
      rw [List.map_map, List.map_map]
      rfl
    have e2 : sm m (fun q => gd (gdl gs q.1) c) = sm m fun q => gd (nx (gdl (cornersP ws os) q.2.1) mv q.2.2) c := sm_congr fun p hp => by rw [(hk p hp).2]
    have e3 : sm (f.zip (cornersP ws os)) (fun C => gd C c) = sm m fun q => gd (gdl (cornersP ws os) q.2.1) c := by
      rw [hf, sm_grp _ _ (fun C => gd C c) (fun p hp => by
        obtain ⟨q, hq, rfl⟩ := List.mem_map.mp hp
        exact (hk q hq).1), sm_map (fun q : Nat × Nat × Int => q.2.1) (fun j => gd ((cornersP ws os).getD j []) c) m]
      rfl
    rw [e1, e2, e3]
    exact (sm_gone mv m (fun q => gdl (cornersP ws os) q.2.1) (fun q => q.2.2) ws.length c (fun p hp => cornersP_len (gdl_mem _ (hk p hp).1)) hc).symm
end
end MR
end
section
set_option Elab.async false
set_option linter.all false
set_option maxHeartbeats 1000000
set_option maxRecDepth 20000
set_option exponentiation.threshold 30000
namespace MR
open PySem PySem.Spec PyProof.Rows L2 VL MF
theorem cutU (xs : List PyData) (k : Nat) (hk : k ≤ xs.length) : VL.cutD xs none (some (k : Int)) = xs.take k := by
  unfold VL.cutD
  rw [HT.sIx_nat, HT.sIx_none, Nat.min_eq_left hk]
  simp
theorem set_sum : ∀ (b : List Int) (i : Nat), i < b.length → (b.set i (gd b i + 1)).sum = b.sum + 1
  | x :: b, 0, _ => by simp [gd]; omega
  | x :: b, i + 1, h => by
    have := set_sum b i (by simpa using h)
    have e : gd (x :: b) (i + 1) = gd b i := rfl
    rw [e, List.set_cons_succ, List.sum_cons, List.sum_cons, this]; omega
theorem sum_le_of : ∀ (b : List Int) (M : Int), (∀ x ∈ b, x ≤ M) → b.sum ≤ b.length * M
  | [], M, _ => by simp
  | x :: b, M, h => by
    have h1 := h x (by simp)
    have h2 := sum_le_of b M fun y hy => h y (List.mem_cons_of_mem _ hy)
    rw [List.sum_cons, List.length_cons]
    push_cast
    rw [Int.add_mul]; omega
theorem v_co_some {μ : Mu} {n : Nat} (d : Dice μ n) {k : Nat} (h1 : 1 ≤ k) (h4 : k ≤ 4) : ∃ b μ', m__law_co_some μ [.loc n, .d (.int k)] = some (.d (.list (nI b)), μ') ∧ DU μ n μ' ∧ Wt b.sum b k := by
  have hr := rg_of (n := k) (by omega)
  obtain ⟨bs, μ1, e1, u1, hl, r1⟩ := lcR (n := n) (t := tNm 3) (fe := q1__law_co_some) (all := nI (upto k)) (ρ := wipeR [some (.loc n), some (.d (.int k)), none, none] [3]) PyData.int (fun _ p => 0 ≤ p ∧ p ≤ 1000000000) (upto k) μ d (fun x hx μ dd => by
    obtain ⟨r, μa, q0, q1, ua, ea⟩ := v_roll' dd (most := 40) (by decide) (by decide)
    obtain ⟨p, μb, hp, ub, eb⟩ := v_pick (ua.dice dd) (ds := [.int 0, .int 0, .int 1, .int 1, .int 2, .int 3, .int 7, .int 1000000000, .int r]) (by simp) (by simp)
    obtain ⟨y, hy, rfl⟩ : ∃ y : Int, (0 ≤ y ∧ y ≤ 1000000000) ∧ p = .int y := by
      simp at hp
      rcases hp with rfl | rfl | rfl | rfl | rfl | rfl | rfl
      · exact ⟨0, by omega, rfl⟩
      · exact ⟨1, by omega, rfl⟩
      · exact ⟨2, by omega, rfl⟩
      · exact ⟨3, by omega, rfl⟩
      · exact ⟨7, by omega, rfl⟩
      · exact ⟨1000000000, by omega, rfl⟩
      · exact ⟨r, by omega, rfl⟩
    refine ⟨_, y, μb, rfl, ?_, ua.trans ub, hy⟩
    simp [q1__law_co_some, wipeR, ea, eb])
  rw [upto_len] at hl r1
  have hwb : ∀ x ∈ bs, 0 ≤ x ∧ x ≤ 1000000000 := fun x hx => by
    obtain ⟨i, hi, rfl⟩ := mem_gd hx
    exact r1 i (by omega)
  have d1 := u1.dice d
  obtain ⟨r, μ2, q0, q1, u2, e2⟩ := v_roll' d1 (most := k) (by omega) (by omega)
  obtain ⟨j, rfl⟩ := Int.eq_ofNat_of_zero_le q0
  have hj : j < bs.length := by omega
  have a1 := atI_nI (ws := bs) (i := j) hj
  have c1 := cutU (nI bs) j (by rw [nI_len]; omega)
  have c2 := cutk (nI bs) (j + 1) (by rw [nI_len]; omega)
  push_cast at c2
  have es : (nI bs).take j ++ (PyData.int (gd bs j + 1) :: (nI bs).drop (j + 1)) = nI (bs.set j (gd bs j + 1)) := by
    have : bs.set j (gd bs j + 1) = bs.take j ++ (gd bs j + 1) :: bs.drop (j + 1) := List.set_eq_take_append_cons_drop.trans (by rw [if_pos hj])
    rw [this]
    simp [nI]
  rw [kE, ← rngD_nI] at e1
  have len1 := u1.len
  have len2 := u2.len
  have tk : μ2.take μ.length = μ2 := List.take_of_length_le (by omega)
  have l1 : (nI bs).length ≤ 1000000 := by rw [nI_len]; omega
  refine ⟨bs.set j (gd bs j + 1), μ2, ?_, u1.trans u2, ?_⟩
  · rw [← es]
    have lB : (nI bs).length ≤ 4 := by rw [nI_len]; omega
    generalize nI bs = B at *
    have m1 : min j B.length ≤ 999999 := by omega
    have m2 : min j B.length + 1 + (B.length - (j + 1)) ≤ 1000000 := by omega
    simp [m__law_co_some, b__law_co_some, fnM, hr, e1, l1, e2, c1, a1, c2, tk, m1, m2]
  · have hnn : ∀ x ∈ bs.set j (gd bs j + 1), 0 ≤ x ∧ x ≤ 1000000001 := fun x hx => by
      rcases mem_set hx with h | rfl
      · have := hwb x h; omega
      · have := hwb _ (gd_mem hj); omega
    have hs := set_sum bs j hj
    have h0 := nnS bs fun x hx => (hwb x hx).1
    have hle := sum_le_of _ _ fun x hx => (hnn x hx).2
    rw [List.length_set, hl] at hle
    exact ⟨⟨by omega, by omega⟩, fun x hx => (hnn x hx).1, rfl, by rw [List.length_set, hl], h4⟩
theorem v_co_parts (μ : Mu) {S : Int} {b : List Int} {k : Nat} (w : Wt S b k) : m__law_co_parts μ [.d (.list (nI b))] = some (.d (.tuple (rw_ S b)), μ) := by
  have sp := w.s.pos
  have sl := w.s.le
  have hlt : S.natAbs < 2 ^ 8000 := Nat.lt_trans (show S.natAbs < 2 ^ 60 by omega) (Nat.pow_lt_pow_right (by decide) (by decide))
  have hti := toI_nI b
  have e1 := lcE0 (t := tNm 1) (fe := q1__law_co_parts) (all := nI b) (ρ := wipeR [some (.d (.list (nI b))), none] [1]) (μ := μ) PyData.int (fun x => fr (L x S)) b (fun x hx => by
    have := v_co_low μ x S sp hlt
    refine ⟨_, rfl, ?_⟩
    simp only [fr] at this ⊢
    simp [q1__law_co_parts, wipeR, hti, w.sum, this])
  rw [kE, show b.map (fun x => fr (L x S)) = rw_ S b from rfl] at e1
  have ll : (rw_ S b).length ≤ 1000000 := by rw [rw_len, w.len]; have := w.k4; omega
  generalize rw_ S b = R at *
  simp [m__law_co_parts, b__law_co_parts, fnM, e1, ll]
end MR
end
section
set_option Elab.async false
set_option linter.all false
set_option maxHeartbeats 1000000
set_option maxRecDepth 20000
set_option exponentiation.threshold 30000
namespace MR
open PySem PySem.Spec PyProof.Rows L2 VL MF
theorem DU.app {μ μ' : Mu} {n : Nat} {x : List PyData} (hn : n < μ.length) (h : DU (μ ++ [x]) n μ') : ∃ μ1, μ' = μ1 ++ [x] ∧ DU μ n μ1 := by
  obtain ⟨a, b, c, rfl⟩ := h
  exact ⟨_, List.set_append_left n _ hn, a, b, c, rfl⟩
theorem Dice.lt {μ : Mu} {n : Nat} (d : Dice μ n) : n < μ.length := by
  obtain ⟨a, b, c, h⟩ := d
  exact (List.getElem?_eq_some_iff.mp h).1
theorem Dice.app {μ : Mu} {n : Nat} (d : Dice μ n) (x : List PyData) : Dice (μ ++ [x]) n := by
  obtain ⟨a, b, c, h⟩ := d
  exact ⟨a, b, c, by rw [List.getElem?_append_left (List.getElem?_eq_some_iff.mp h).1]; exact h⟩
def gdD (p : Int × Int) : PyData := .tuple [.int p.1, .int p.2]
def gdg (gs : List (Int × Int)) (i : Nat) : Int × Int := gs.getD i (0, 0)
def GOk (ws o : List Int) (i : Nat) (p : Int × Int) : Prop := 0 ≤ p.1 ∧ p.1 ≤ gd ws i ∧ gd ws i + (if (i : Int) ∈ o then 0 else 1) ≤ p.2 ∧ p.2 ≤ 4
theorem v_raisedL (μ : Mu) (ws lot : List Int) (hl : ws.length ≤ 1000) : m_raised μ [.d (.tuple (nI ws)), .d (.list (nI lot))] = some (.d (tI (rz ws lot)), μ) := by
  have hr := rg_of (n := ws.length) (by omega)
  have e1 := lcE0 (t := tNm 2) (fe := q1_raised) (all := rngD 0 ws.length) (ρ := wipeR [some (.d (.tuple (nI ws))), some (.d (.list (nI lot))), none] [2]) (μ := μ) (fun (i : Nat) => PyData.int (i : Int)) (fun (i : Nat) => PyData.int (if (i : Int) ∈ lot then gd ws i + 1 else gd ws i)) (List.range ws.length) (fun i hi => by
    have ha := atI_nI (ws := ws) (i := i) (by simpa using hi)
    have m := oIn_lst false μ (i : Int) lot
    refine ⟨_, rfl, ?_⟩
    by_cases c : (i : Int) ∈ lot
    · rw [decide_eq_true c] at m
      simp [q1_raised, wipeR, -oIn, m, ha, c]
    · rw [decide_eq_false c] at m
      simp [q1_raised, wipeR, -oIn, m, ha, c])
  have e2 : (List.range ws.length).map (fun (i : Nat) => PyData.int (if (i : Int) ∈ lot then gd ws i + 1 else gd ws i)) = nI (rz ws lot) := by simp [nI, rz, Function.comp_def]
  rw [e2, ← rngD_map] at e1
  have ll : (nI (rz ws lot)).length ≤ 1000000 := by rw [nI_len, rz_len]; omega
  unfold tI
  generalize nI (rz ws lot) = A at *
  simp [m_raised, b_raised, fnM, nI_len, hr, e1, ll]
theorem zip3_eq {ws vs : List Int} {gs : List (Int × Int)} (h1 : vs.length = ws.length) (h2 : gs.length = ws.length) : zip3D (nI ws) (nI vs) (gs.map gdD) = (List.range ws.length).map fun (i : Nat) => PyData.tuple [.int (gd ws i), .int (gd vs i), gdD (gdg gs i)] := by
  apply List.ext_getElem
  · simp [zip3D, nI, h1, h2]
  · intro i a b
    have hi : i < ws.length := by simpa using b
    simp [zip3D, nI, gd, gdg, hi, h1, h2]
theorem zip_g {S : Int} {v : List Int} {gs : List (Int × Int)} : zipD (rw_ S v) (gs.map gdD) = (v.zip gs).map fun p => .tuple [fr (L p.1 S), gdD p.2] := by
  unfold zipD rw_
  rw [List.zip_map, List.map_map]
  rfl
end MR
end
section
set_option Elab.async false
set_option linter.all false
set_option maxHeartbeats 1000000
set_option maxRecDepth 20000
set_option exponentiation.threshold 30000
namespace MR
open PySem PySem.Spec PyProof.Rows L2 VL MF
theorem oEq_self {μ : Mu} {p : PyData} (hp : p.plain = true) (hd : p.depth ≤ 100) (neg : Bool) : oEq neg μ (.d p) (.d p) = some (.d (.bool (!neg))) := by
  rw [oEq_of hp hp hd, SeqAt.eqv_refl_plain p hp]
  cases neg <;> rfl
theorem plainA_rw (S : Int) : ∀ b : List Int, PyData.plainAll (rw_ S b) = true
  | [] => by simp [rw_, PyData.plainAll]
  | x :: b => by
    have := plainA_rw S b
    simp only [rw_, List.map_cons] at *
    simp [PyData.plainAll, plain_fr, this]
theorem depthA_rw (S : Int) : ∀ b : List Int, PyData.depthAll (rw_ S b) ≤ 1
  | [] => by simp [rw_, PyData.depthAll]
  | x :: b => by
    have := depthA_rw S b
    simp only [rw_, List.map_cons] at *
    simp [PyData.depthAll, depth_fr]
    omega
theorem plain_rt (S : Int) (b : List Int) : (PyData.tuple (rw_ S b)).plain = true := by simp [PyData.plain, plainA_rw]
theorem depth_rt (S : Int) (b : List Int) : (PyData.tuple (rw_ S b)).depth ≤ 100 := by
  have := depthA_rw S b
  simp [PyData.depth]; omega
theorem plain_due (S t : Int) (b : List Int) : (PyData.tuple [fr (L t S), .tuple (rw_ S b)]).plain = true := by
  have h1 := plain_fr (L t S)
  have h2 := plain_rt S b
  rw [PyData.plain]
  simp only [PyData.plainAll, h1, h2, Bool.and_self]
theorem depth_due (S t : Int) (b : List Int) : (PyData.tuple [fr (L t S), .tuple (rw_ S b)]).depth ≤ 100 := by
  have h1 := depth_fr (L t S)
  have h2 := depthA_rw S b
  simp only [PyData.depth, PyData.depthAll] at *
  omega
theorem forM_run {t : TF} {body : SF} {all : List PyData} (I : List PyData → Rho → Mu → Prop) (step : ∀ d ds ρ μ, I (d :: ds) ρ μ → ∃ ρ1 ρ2 μ2, t (.d d) ρ = some ρ1 ∧ body ρ1 μ = some (.nx ρ2 μ2) ∧ I ds ρ2 μ2) :
    ∀ ds ρ μ, I ds ρ μ → ∃ ρ' μ', VL.forM t body none all ds ρ μ = some (.nx ρ' μ') ∧ I [] ρ' μ'
  | [], ρ, μ, h => ⟨ρ, μ, by simp [VL.forM, srcOk_none], h⟩
  | d :: ds, ρ, μ, h => by
    obtain ⟨ρ1, ρ2, μ2, e1, e2, h2⟩ := step d ds ρ μ h
    obtain ⟨ρ', μ', e3, h3⟩ := forM_run (all := all) I step ds ρ2 μ2 h2
    exact ⟨ρ', μ', by simp [VL.forM, srcOk_none, e1, e2, e3], h3⟩
end MR
end
section
set_option Elab.async false
set_option linter.all false
set_option maxHeartbeats 4000000
set_option exponentiation.threshold 30000
set_option maxRecDepth 100000
namespace MR
open PySem PySem.Spec PyProof.Rows L2 VL MF
theorem v_dice (μ : Mu) (ns : List Int) (k : Int) (hk : 0 ≤ k) : ∃ a b : Int, m__law_dice μ [.kl ns, .d (.int k)] = some (.loc μ.length, μ ++ [[.int a, .int b, .int 0]]) := by
  have m1 : ∀ x, mulOk 71 x = true := fun x => mulOk_l (by decide)
  have m2 : ∀ x, mulOk x 89 = true := fun x => mulOk_r (by decide)
  have m3 : ∀ x, mulOk 1021 x = true := fun x => mulOk_l (by decide)
  have m4 : ∀ x, mulOk 47 x = true := fun x => mulOk_l (by decide)
  have m5 : mulOk 1000000000000000000000000000000000000000000000000000000000 100000000000000000000000000000000000000000000000000000000000 = true := by decide +kernel
  have tk : ∀ l : List PyData, ((μ ++ [l]).take μ.length) = μ := fun l => by simp
  by_cases c : k < ns.length
  · obtain ⟨j, rfl⟩ := Int.eq_ofNat_of_zero_le hk
    have hj : j < ns.length := by omega
    have a0 : atI (ns.map PyData.int) (j : Int) = some (.int ns[j]) := by rw [MR.atI_nat _ _ (by simpa using hj)]; simp [hj]
    simp [m__law_dice, b__law_dice, fnM, m1, m2, m3, m4, m5, hj, a0]
  · simp [m__law_dice, b__law_dice, fnM, m1, m2, m3, m4, m5, c]

theorem g2 : G [1, 0] ([] :: [[0], [1]]) := ⟨by decide, by decide, by decide, by decide⟩
theorem w4 : Wt 4 [2, 1, 1] ([] :: [[0], [1]] : List (List Int)).length := ⟨⟨by decide, by decide⟩, by decide, by decide, rfl, by decide⟩
def twoD : PyData := .tuple [.tuple [.int 1, .int 0], .tuple [.tuple [], .tuple [.int 0], .tuple [.int 1]]]
def wtD : PyData := .tuple [.tuple [.int 1, .int 2], .tuple [.int 1, .int 4], .tuple [.int 1, .int 4]]
theorem wt_eq : PyData.tuple (rw_ 4 [2, 1, 1]) = wtD := by kernel_rfl
end MR
end
section
set_option Elab.async false
set_option linter.all false
set_option maxHeartbeats 1000000
set_option maxRecDepth 20000
set_option exponentiation.threshold 30000
namespace MR
open PySem PySem.Spec PyProof.Rows L2 VL MF
def NmZ (S x : Int) : Prop := -(100 * S) ≤ x ∧ x ≤ 100 * S
theorem Nm.z {S x : Int} (s : SOk S) (h : Nm S x) : NmZ S x := ⟨by have := s.pos; have := h.1; omega, h.2⟩
theorem bdZ {S x : Int} (s : SOk S) (h : NmZ S x) : Bd 70 (L x S) := by
  have h1 := s.pos; have h2 := s.le; have h3 := h.1; have h4 := h.2
  have : (2 : Nat) ^ 70 = 1180591620717411303424 := by decide
  refine L_Bd (by omega) ?_ ?_ <;> omega
theorem sub_L {S a c : Int} (hS : 0 < S) : L ((L a S).1 * (L c S).2 - (L c S).1 * (L a S).2) ((L a S).2 * (L c S).2) = L (a - c) S := by
  have h0 : S ≠ 0 := by omega
  have h1 := L_val a h0
  have h2 := L_val c h0
  refine L_eq (pos_mul (L_isF a h0).1 (L_isF c h0).1) h0 ?_
  generalize (L a S).1 = p1 at *
  generalize (L a S).2 = p2 at *
  generalize (L c S).1 = q1 at *
  generalize (L c S).2 = q2 at *
  grind
theorem v_diffS (μ : Mu) {S a c : Int} (s : SOk S) (ha : NmZ S a) (hc : NmZ S c) : m_difference_of μ [.d (fr (L a S)), .d (fr (L c S))] = some (.d (fr (L (a - c) S)), μ) := by
  have hp := bdZ s ha; have hq := bdZ s hc
  have h1 : mulOk (L a S).1 (L c S).2 = true := mulOk_w hp.top hq.bot (by omega)
  have h2 : mulOk (L c S).1 (L a S).2 = true := mulOk_w hq.top hp.bot (by omega)
  have h3 : mulOk (L a S).2 (L c S).2 = true := mulOk_w hp.bot hq.bot (by omega)
  have h4 := v_reduced μ ((L a S).1 * (L c S).2 - (L c S).1 * (L a S).2) ((L a S).2 * (L c S).2) (pos_mul hp.pos hq.pos) (lt_up (lt_mul hp.bot hq.bot) (by omega))
  rw [sub_L s.pos] at h4
  simp only [fr] at h4 ⊢
  simp [m_difference_of, b_difference_of, fnM, at0, at1, h1, h2, h3, h4]
def difs (l : List Int) : List Int := (l.zip l.tail).map fun p => p.2 - p.1
theorem rw_app (S : Int) (a b : List Int) : rw_ S (a ++ b) = rw_ S a ++ rw_ S b := by simp [rw_]
theorem cut_rw1 (S : Int) (b : List Int) : VL.cutD (rw_ S b) (some 1) none = rw_ S b.tail := by
  rw [cut1]; simp [rw_]
theorem zip_rr (S : Int) (a b : List Int) : zipD (rw_ S a) (rw_ S b) = (a.zip b).map fun p => .tuple [fr (L p.1 S), fr (L p.2 S)] := by
  unfold zipD rw_
  rw [List.zip_map, List.map_map]
  rfl
theorem v_rises (μ : Mu) {S : Int} (s : SOk S) {r : List Int} (h : ∀ x ∈ r, NmZ S x) (hl : r.length ≤ 1000) : m_rises μ [.d (.list (rw_ S r))] = some (.d (.list (rw_ S (difs (0 :: r ++ [S])))), μ) := by
  have sp := s.pos
  have hz : ∀ x ∈ 0 :: r ++ [S], NmZ S x := fun x hx => by
    simp only [List.cons_append, List.mem_cons, List.mem_append, List.not_mem_nil, or_false] at hx
    rcases hx with rfl | hx | rfl
    · exact ⟨by omega, by omega⟩
    · exact h x hx
    · exact ⟨by omega, by omega⟩
  have e1 : [PyData.tuple [.int 0, .int 1]] ++ rw_ S r ++ [PyData.tuple [.int 1, .int 1]] = rw_ S (0 :: r ++ [S]) := by
    simp [rw_, L_zero s, L_one s, fr]
  have l1 : (rw_ S (0 :: r ++ [S])).length ≤ 2000 := by rw [rw_len]; simp; omega
  have c1 := cut_rw1 S (0 :: r ++ [S])
  have e2 : ∀ a : Option Vw, VL.lcM (tTp (lCons (tNm 2) (lCons (tNm 3) lNil))) bYes q1_rises none (zipD (rw_ S (0 :: r ++ [S])) (rw_ S (0 :: r ++ [S]).tail)) (zipD (rw_ S (0 :: r ++ [S])) (rw_ S (0 :: r ++ [S]).tail)) (wipeR [a, some (.d (.list (rw_ S (0 :: r ++ [S])))), none, none] [2, 3]) μ = some (rw_ S (difs (0 :: r ++ [S])), μ) := fun a => by
    rw [zip_rr, lcE0 (fun p : Int × Int => PyData.tuple [fr (L p.1 S), fr (L p.2 S)]) (fun p => fr (L (p.2 - p.1) S)) ((0 :: r ++ [S]).zip (0 :: r ++ [S]).tail) (fun p hp => by
      have hm := List.of_mem_zip hp
      have := v_diffS μ s (hz _ (List.mem_of_mem_tail hm.2)) (hz _ hm.1)
      refine ⟨_, rfl, ?_⟩
      simp only [fr] at this ⊢
      simp [q1_rises, wipeR, this])]
    simp [rw_, difs, Function.comp_def]
  have l2 : (rw_ S (difs (0 :: r ++ [S]))).length ≤ 1000000 := by rw [rw_len]; simp [difs]; omega
  have lr : (rw_ S r).length ≤ 1000 := by rw [rw_len]; exact hl
  have e0 : PyData.tuple [.int 0, .int 1] :: (rw_ S r ++ [PyData.tuple [.int 1, .int 1]]) = rw_ S (0 :: r ++ [S]) := by rw [← e1]; simp
  generalize hR : rw_ S (0 :: r ++ [S]) = R at *
  generalize rw_ S (0 :: r ++ [S]).tail = R2 at *
  generalize rw_ S (difs (0 :: r ++ [S])) = D at *
  generalize rw_ S r = B at *
  have m1 : 1 + B.length ≤ 1000000 := by omega
  have m2 : 1 + B.length + 1 ≤ 1000000 := by omega
  have m3 : B.length + 1 ≤ 1000000 := by omega
  have m4 : B.length + 1 + 1 ≤ 1000000 := by omega
  have m5 : B.length ≤ 999999 := by omega
  have m6 : 1 + B.length ≤ 999999 := by omega
  have m7 : B.length + 1 ≤ 999999 := by omega
  simp [m_rises, b_rises, fnM, m1, m2, m3, m4, m5, m6, m7, e0, c1, iZipM, e2, l2]
theorem v_is_from_zero (μ : Mu) {S x : Int} (s : SOk S) (h : Nm S x) : m_is_from_zero μ [.d (fr (L x S))] = some (.d (.bool true), μ) := by
  have e := v_isfr μ s h
  have n := L_nn s h.1
  simp only [fr] at e ⊢
  simp [m_is_from_zero, b_is_from_zero, fnM, e, at0, n]
theorem all_t {α : Type} : ∀ t : List α, (t.all fun _ => true) = true := fun t => by induction t <;> simp_all
theorem any_f {α : Type} : ∀ t : List α, (t.any fun _ => false) = false := fun t => by induction t <;> simp_all
theorem v_check_readings (μ : Mu) {S : Int} (s : SOk S) {t : List Int} {n : Int} (hn : (t.length : Int) = n) (hl : t.length ≤ 1000) (h : ∀ x ∈ t, Nm S x) : m_check_readings μ [.d (.int n), .d (.tuple (rw_ S t))] = some (.d .none, μ) := by
  have e1 := v_is_row μ n (rw_ S t) (by rw [rw_len]; exact hn)
  have l := lcE0 (t := tNm 2) (fe := q1_check_readings) (all := rw_ S t) (ρ := wipeR [some (.d (.int n)), some (.d (.tuple (rw_ S t))), none] [2]) (μ := μ) (fun x => fr (L x S)) (fun _ => .bool true) t (fun x hx => ⟨_, rfl, by
    have := v_is_from_zero μ s (h x hx)
    simp only [fr] at this ⊢
    simp [q1_check_readings, wipeR, this]⟩)
  rw [show t.map (fun x => fr (L x S)) = rw_ S t from rfl] at l
  have tb := toB_true t
  have ha := all_true t
  generalize rw_ S t = R at *
  simp [m_check_readings, b_check_readings, fnM, e1, l, tb, all_t, show t.length ≤ 1000000 by omega]
theorem v_order4 (μ : Mu) {S x : Int} (s : SOk S) (h : Nm S x) (h4 : x ≤ 4 * S) : ∃ j : Int, j ≤ 0 ∧ m_order_of μ [.d (fr (L x S)), .d (.tuple [.int 4, .int 1])] = some (.d (.int j), μ) := by
  have sp := s.pos
  have b := bdS s h
  have bp := b.pos
  have m1 : mulOk (L x S).1 1 = true := mulOk_w (a := 70) (b := 8) b.top (by decide) (by omega)
  have m2 : mulOk 4 (L x S).2 = true := mulOk_w (a := 8) (b := 70) (by decide) b.bot (by omega)
  have lv := L_val x (show S ≠ 0 by omega)
  have c : (L x S).1 ≤ 4 * (L x S).2 := by
    refine Int.le_of_mul_le_mul_right (a := S) ?_ sp
    rw [lv]
    have := Int.mul_le_mul_of_nonneg_right h4 (show 0 ≤ (L x S).2 by omega)
    have e : 4 * (L x S).2 * S = 4 * S * (L x S).2 := by rw [Int.mul_right_comm]
    omega
  by_cases c1 : (L x S).1 < 4 * (L x S).2
  · refine ⟨-1, by decide, ?_⟩
    simp only [fr]
    simp [m_order_of, b_order_of, fnM, at0, at1, m1, m2, c1]
  · refine ⟨0, by decide, ?_⟩
    have c2 : ¬ 4 * (L x S).2 < (L x S).1 := by omega
    simp only [fr]
    simp [m_order_of, b_order_of, fnM, at0, at1, m1, m2, c1, c2]
theorem any_false {α : Type} (l : List α) : (l.map fun _ => false).any id = false := by
  rw [List.any_eq_false]; intro x hx; obtain ⟨_, _, rfl⟩ := List.mem_map.mp hx; decide
theorem v_check_low (μ : Mu) {S : Int} (s : SOk S) {t : List Int} (hl : t.length ≤ 1000) (h : ∀ x ∈ t, Nm S x) (h4 : ∀ x ∈ t, x ≤ 4 * S) : m_check_low μ [.d (.tuple (rw_ S t))] = some (.d .none, μ) := by
  have l := lcE0 (t := tNm 1) (fe := q1_check_low) (all := rw_ S t) (ρ := wipeR [some (.d (.tuple (rw_ S t))), none] [1]) (μ := μ) (fun x => fr (L x S)) (fun _ => .bool false) t (fun x hx => ⟨_, rfl, by
    obtain ⟨j, hj, e⟩ := v_order4 μ s (h x hx) (h4 x hx)
    have : ¬ 0 < j := by omega
    simp only [fr] at e ⊢
    simp [q1_check_low, wipeR, e, this]⟩)
  rw [show t.map (fun x => fr (L x S)) = rw_ S t from rfl] at l
  have tb := toB_map (fun _ : Int => false) t
  have ha := any_false t
  generalize rw_ S t = R at *
  simp [m_check_low, b_check_low, fnM, l, tb, any_f, show t.length ≤ 1000000 by omega]
end MR
end
section
set_option Elab.async false
set_option linter.all false
set_option maxHeartbeats 1000000
set_option maxRecDepth 20000
set_option exponentiation.threshold 30000
namespace MR
open PySem PySem.Spec PyProof.Rows L2 VL MF
theorem oEq_fr (neg : Bool) (μ : Mu) (p q : Int × Int) : oEq neg μ (.d (fr p)) (.d (fr q)) = some (.d (.bool (if neg then !decide (p = q) else decide (p = q)))) := by
  rw [oEq_of (plain_fr p) (plain_fr q) (by rw [depth_fr]; omega), eqv_fr]
theorem L_dec {S : Int} (s : SOk S) (a c : Int) : decide (L a S = L c S) = decide (a = c) := by
  by_cases h : a = c
  · subst h; simp
  · rw [decide_eq_false h, decide_eq_false fun z => h (L_inj s z)]
theorem L_neg {S : Int} (s : SOk S) (x : Int) : decide ((L x S).1 < 0) = decide (x < 0) := by
  have sp := s.pos
  have lv := L_val x (show S ≠ 0 by omega)
  have h2 := (L_isF x (show S ≠ 0 by omega)).1
  by_cases h : x < 0
  · rw [decide_eq_true h, decide_eq_true_eq]
    have h3 : x * (L x S).2 < 0 := Int.mul_neg_of_neg_of_pos h h2
    rw [← lv] at h3
    by_cases z : (L x S).1 < 0
    · exact z
    · have := Int.mul_nonneg (show 0 ≤ (L x S).1 by omega) (show 0 ≤ S by omega)
      omega
  · rw [decide_eq_false h, decide_eq_false]
    have := L_nn s (show 0 ≤ x by omega)
    omega
def ovP (S : Int) (ws t : List Int) : List Int := (List.range ws.length).map fun c => gd t c - gd ws c * S
theorem ovP_len (S : Int) (ws t : List Int) : (ovP S ws t).length = ws.length := by simp [ovP]
theorem gd_ovP {S : Int} {ws t : List Int} {c : Nat} (h : c < ws.length) : gd (ovP S ws t) c = gd t c - gd ws c * S := by simp [gd, ovP, List.getD_eq_getElem?_getD, h]
def restsI (os : List (List Int)) (v : List Int) : List Int := os.map fun g => gd v (g.headD 0).toNat
def ok1 (o v : List Int) : Bool := o.all fun c => decide (gd v c.toNat = 0)
def ok2 (os : List (List Int)) (v : List Int) : Bool := os.all fun g => g.all fun c => decide (gd v c.toNat = gd v (g.headD 0).toNat)
def ladr (S : Int) (r : List Int) : List Int := difs (0 :: r ++ [S])
def ok3 (S : Int) (r : List Int) : Bool := (ladr S r).all fun x => decide (0 ≤ x)
def okR (S : Int) (o : List Int) (os : List (List Int)) (v : List Int) : Bool := ok1 o v && (ok2 os v && ok3 S (restsI os v))
theorem zip_ov (S : Int) {ws t : List Int} (h : t.length = ws.length) : zipD (rw_ S t) (nI ws) = (List.range ws.length).map fun (c : Nat) => PyData.tuple [fr (L (gd t c) S), .int (gd ws c)] := by
  apply List.ext_getElem
  · simp [zipD, rw_, nI, h]
  · intro i a b
    have hi : i < ws.length := by simpa using b
    simp [zipD, rw_, nI, gd, hi, h]
structure TOk (S : Int) (ws t : List Int) : Prop where
  len : t.length = ws.length
  b : ∀ x ∈ t, 0 ≤ x ∧ x ≤ 4 * S
theorem ov_bd {S : Int} (s : SOk S) {ws o t : List Int} {os : List (List Int)} (g : G ws (o :: os)) (ht : TOk S ws t) : ∀ x ∈ ovP S ws t, -(4 * S) ≤ x ∧ x ≤ 4 * S := fun x hx => by
  have sp := s.pos
  obtain ⟨c, hc, rfl⟩ := mem_gd hx
  rw [ovP_len] at hc
  rw [gd_ovP hc]
  have h1 := ht.b _ (gd_mem (ws := t) (i := c) (by rw [ht.len]; exact hc))
  have h2 := g.hw _ (gd_mem hc)
  have h3 := Int.mul_le_mul_of_nonneg_right h2.2 (show 0 ≤ S by omega)
  have h4 := Int.mul_nonneg h2.1 (show 0 ≤ S by omega)
  omega
theorem ovZ {S : Int} (s : SOk S) {ws o t : List Int} {os : List (List Int)} (g : G ws (o :: os)) (ht : TOk S ws t) : ∀ x ∈ ovP S ws t, NmZ S x := fun x hx => by
  have := ov_bd s g ht x hx
  have := s.pos
  exact ⟨by omega, by omega⟩
theorem v_over (μ : Mu) {S : Int} (s : SOk S) {ws o t : List Int} {os : List (List Int)} (g : G ws (o :: os)) (ht : TOk S ws t) (a b c d e f : Option Vw) :
    VL.lcM (tTp (lCons (tNm 6) (lCons (tNm 7) lNil))) bYes q1_rests_by none (zipD (rw_ S t) (nI ws)) (zipD (rw_ S t) (nI ws)) (wipeR [a, b, c, d, e, f, none, none, none, none, none, none] [6, 7]) μ = some (rw_ S (ovP S ws t), μ) := by
  have sp := s.pos
  rw [zip_ov S ht.len, lcE0 (fun (c : Nat) => PyData.tuple [fr (L (gd t c) S), .int (gd ws c)]) (fun c => fr (L (gd t c - gd ws c * S) S)) (List.range ws.length) (fun c hc => by
    have hc : c < ws.length := by simpa using hc
    have h1 := ht.b _ (gd_mem (ws := t) (i := c) (by rw [ht.len]; exact hc))
    have h2 := g.hw _ (gd_mem hc)
    have h3 := Int.mul_le_mul_of_nonneg_right h2.2 (show 0 ≤ S by omega)
    have h4 := Int.mul_nonneg h2.1 (show 0 ≤ S by omega)
    have e := v_diffS μ s (a := gd t c) (c := gd ws c * S) ⟨by omega, by omega⟩ ⟨by omega, by omega⟩
    rw [L_whole s] at e
    refine ⟨_, rfl, ?_⟩
    simp only [fr] at e ⊢
    simp [q1_rests_by, wipeR, e])]
  simp [rw_, ovP, Function.comp_def]
theorem v_any1 (μ : Mu) {S : Int} (s : SOk S) {o v : List Int} (ho : ∀ c ∈ o, 0 ≤ c ∧ c < v.length) (a b c d f g h : Option Vw) :
    VL.lcM (tNm 8) bYes q2_rests_by none (nI o) (nI o) (wipeR [a, b, c, d, some (.d (.list (rw_ S v))), f, g, h, none, none, none, none] [8]) μ = some (o.map fun c => PyData.bool (!decide (gd v c.toNat = 0)), μ) := by
  show VL.lcM _ _ _ _ _ (o.map PyData.int) _ _ = _
  rw [lcE0 PyData.int (fun c => PyData.bool (!decide (gd v c.toNat = 0))) o (fun c hc => by
    have h1 := atI_rw (S := S) (ho c hc).1 (ho c hc).2
    have e := oEq_fr true μ (L (gd v c.toNat) S) (L 0 S)
    rw [L_dec s, L_zero s] at e
    refine ⟨_, rfl, ?_⟩
    simp only [fr] at h1 e ⊢
    simp [q2_rests_by, wipeR, h1, -oEq, e])]
theorem v_rests (μ : Mu) {S : Int} {os : List (List Int)} {v : List Int} (ho : ∀ o ∈ os, ∀ c ∈ o, 0 ≤ c ∧ c < v.length) (hne : [] ∉ os) (a b c d f g h i : Option Vw) :
    VL.lcM (tNm 9) bYes q3_rests_by none (os.map tI) (os.map tI) (wipeR [a, b, c, d, some (.d (.list (rw_ S v))), f, g, h, i, none, none, none] [9]) μ = some (rw_ S (restsI os v), μ) := by
  rw [lcE0 tI (fun q => fr (L (gd v (q.headD 0).toNat) S)) os (fun q hq => by
    obtain ⟨x, r, rfl⟩ := List.exists_cons_of_ne_nil (fun z => hne (by rw [← z]; exact hq) : q ≠ [])
    have hx := ho _ hq x (by simp)
    have h0 : atI (nI (x :: r)) 0 = some (.int x) := atI0 _ _
    have h1 := atI_rw (S := S) hx.1 hx.2
    refine ⟨_, rfl, ?_⟩
    simp [q3_rests_by, wipeR, tI, h0, h1])]
  simp [rw_, restsI, Function.comp_def]
theorem v_any2 (μ : Mu) {S : Int} (s : SOk S) {os : List (List Int)} {v : List Int} (ho : ∀ o ∈ os, ∀ c ∈ o, 0 ≤ c ∧ c < v.length) (a b c d f g h : Option Vw) :
    VL.lcM2 (tTp (lCons (tNm 9) (lCons (tNm 10) lNil))) bYes (iSeq (eV 9)) (tNm 8) bYes q4_rests_by [8] none (zipD (os.map tI) (rw_ S (restsI os v))) (zipD (os.map tI) (rw_ S (restsI os v))) (wipeR [a, b, c, d, some (.d (.list (rw_ S v))), f, g, h, none, none, none, none] [9, 10, 8]) μ =
      some ((os.flatMap fun q => q.map fun c => PyData.bool (!decide (gd v c.toNat = gd v (q.headD 0).toNat))), μ) := by
  have hz : zipD (os.map tI) (rw_ S (restsI os v)) = os.map fun q => PyData.tuple [tI q, fr (L (gd v (q.headD 0).toNat) S)] := by
    rw [zip_to]
    unfold restsI
    rw [List.zip_map_right, List.map_map]
    have : os.zip os = os.map fun q => (q, q) := by
      clear ho
      induction os with
      | nil => rfl
      | cons x os ih => simp [ih]
    rw [this, List.map_map]
    rfl
  rw [hz, lc2E (fun q => PyData.tuple [tI q, fr (L (gd v (q.headD 0).toNat) S)]) (fun q => q.map fun c => PyData.bool (!decide (gd v c.toNat = gd v (q.headD 0).toNat))) os (fun q hq => by
    refine ⟨_, nI q, rfl, by simp [wipeR, tI], ?_⟩
    show VL.lcM _ _ _ _ _ (q.map PyData.int) _ _ = _
    rw [lcE0 PyData.int (fun c => PyData.bool (!decide (gd v c.toNat = gd v (q.headD 0).toNat))) q (fun c hc => by
      have hx := ho q hq c hc
      have h1 := atI_rw (S := S) hx.1 hx.2
      have e := oEq_fr true μ (L (gd v c.toNat) S) (L (gd v (q.headD 0).toNat) S)
      rw [L_dec s] at e
      refine ⟨_, rfl, ?_⟩
      generalize gd v (q.headD 0).toNat = z at *
      simp only [fr] at h1 e ⊢
      simp [q4_rests_by, wipeR, h1, -oEq, e])])]
theorem v_any3 (μ : Mu) {S : Int} (s : SOk S) (l : List Int) (a b c d e f g h i j k : Option Vw) :
    VL.lcM (tNm 11) bYes q5_rests_by none (rw_ S l) (rw_ S l) (wipeR [a, b, c, d, e, f, g, h, i, j, k, none] [11]) μ = some (l.map fun x => PyData.bool (decide (x < 0)), μ) := by
  show VL.lcM _ _ _ _ _ (l.map fun x => fr (L x S)) _ _ = _
  rw [lcE0 (fun x => fr (L x S)) (fun x => PyData.bool (decide (x < 0))) l (fun x hx => by
    have e := L_neg s x
    refine ⟨_, rfl, ?_⟩
    simp only [fr]
    simp [q5_rests_by, wipeR, at0, e])]
theorem any1_ok (o v : List Int) : (o.any fun c => !decide (gd v c.toNat = 0)) = !ok1 o v := by
  unfold ok1; induction o with
  | nil => rfl
  | cons x o ih => simp only [List.any_cons, List.all_cons, ih, Bool.not_and]
theorem any2_ok (os : List (List Int)) (v : List Int) : ((os.flatMap fun q => q.map fun c => !decide (gd v c.toNat = gd v (q.headD 0).toNat)).any id) = !ok2 os v := by
  unfold ok2; induction os with
  | nil => rfl
  | cons q os ih =>
    rw [List.flatMap_cons, List.any_append, ih, List.all_cons, Bool.not_and]
    congr 1
    generalize gd v (q.headD 0).toNat = z
    clear ih
    induction q with
    | nil => rfl
    | cons c q ih => simp only [List.map_cons, List.any_cons, List.all_cons, ih, Bool.not_and]; rfl
theorem any3_ok (S : Int) (r : List Int) : ((ladr S r).any fun x => decide (x < 0)) = !ok3 S r := by
  unfold ok3; induction ladr S r with
  | nil => rfl
  | cons x o ih =>
    simp only [List.any_cons, List.all_cons, ih, Bool.not_and]
    congr 1
    by_cases h : x < 0
    · rw [decide_eq_true h, decide_eq_false (by omega)]; rfl
    · rw [decide_eq_false h, decide_eq_true (by omega)]; rfl
def restP' (S : Int) (o : List Int) (os : List (List Int)) (v : List Int) : PyData := if okR S o os v = true then .list (rw_ S (restsI os v)) else .none
theorem toB_flat (os : List (List Int)) (f : List Int → Int → Bool) : toB (os.flatMap fun q => q.map fun c => PyData.bool (f q c)) = some (os.flatMap fun q => q.map (f q)) := by
  have : (os.flatMap fun q => q.map fun c => PyData.bool (f q c)) = (os.flatMap fun q => q.map (f q)).map PyData.bool := by
    induction os with
    | nil => rfl
    | cons q os ih => simp only [List.flatMap_cons, List.map_append, ih, List.map_map]; rfl
  rw [this]
  have := toB_map (fun b : Bool => b) (os.flatMap fun q => q.map (f q))
  simpa using this
theorem v_rests_by (μ : Mu) {S : Int} (s : SOk S) {ws o t : List Int} {os : List (List Int)} (g : G ws (o :: os)) (ht : TOk S ws t) : m_rests_by μ [.d (cl ws (o :: os)), .d (.tuple (rw_ S t))] = some (.d (restP' S o os (ovP S ws t)), μ) := by
  obtain ⟨hv, hf, hol⟩ := g.sh
  have hne := g.cls.ne
  have h3 := g.cls.n3
  have hoo : ∀ c ∈ o, 0 ≤ c ∧ c < (ovP S ws t).length := fun c hc => by rw [ovP_len]; exact hv o (by simp) c hc
  have hos : ∀ x ∈ os, ∀ c ∈ x, 0 ≤ c ∧ c < (ovP S ws t).length := fun x hx c hc => by rw [ovP_len]; exact hv x (List.mem_cons_of_mem _ hx) c hc
  have hz := ovZ s g ht
  have hzr : ∀ x ∈ restsI os (ovP S ws t), NmZ S x := fun x hx => by
    obtain ⟨q, hq, rfl⟩ := List.mem_map.mp hx
    obtain ⟨y, r, rfl⟩ := List.exists_cons_of_ne_nil (fun z => hne (by rw [← z]; exact hq) : q ≠ [])
    exact hz _ (gd_memI (hos _ hq y (by simp)).1 (hos _ hq y (by simp)).2)
  have e1 := v_over μ s g ht
  have hlen := ovP_len S ws t
  generalize ovP S ws t = v at *
  have e2 := fun a b c d f g h => v_any1 μ s hoo a b c d f g h
  have e3 := fun a b c d f g h i => v_rests μ (S := S) hos hne a b c d f g h i
  have e4 := fun a b c d f g h => v_any2 μ s hos a b c d f g h
  have e5 := v_rises μ s hzr (by simp [restsI]; omega)
  have e6 := fun a b c d e f g h i j k => v_any3 μ s (ladr S (restsI os v)) a b c d e f g h i j k
  change m_rises μ _ = some (.d (.list (rw_ S (ladr S (restsI os v)))), μ) at e5
  have t1 := toB_map (fun c : Int => !decide (gd v c.toNat = 0)) o
  have t2 := toB_flat os fun q c => !decide (gd v c.toNat = gd v (q.headD 0).toNat)
  have t3 := toB_map (fun x : Int => decide (x < 0)) (ladr S (restsI os v))
  have y1 := any1_ok o v
  have y2 := any2_ok os v
  have y3 := any3_ok S (restsI os v)
  have hcut : VL.cutD (PyData.tuple (nI o) :: os.map tI) (some 1) none = os.map tI := cut1 _
  have a0 : atI (PyData.tuple (nI o) :: os.map tI) 0 = some (.tuple (nI o)) := atI0 _ _
  have l1 : (rw_ S v).length ≤ 1000000 := by rw [rw_len]; omega
  have l2 : o.length ≤ 1000000 := by have := g.cls.sub (x := o) (by simp); omega
  have l3 : (rw_ S (restsI os v)).length ≤ 1000000 := by rw [rw_len]; simp [restsI]; omega
  have l4 : (os.flatMap fun q => q.map fun c => PyData.bool (!decide (gd v c.toNat = gd v (q.headD 0).toNat))).length ≤ 1000000 := by
    have : (os.flatMap fun q => q.map fun c => PyData.bool (!decide (gd v c.toNat = gd v (q.headD 0).toNat))).length = os.flatten.length := by
      clear e2 e3 e4 e5 e6 t1 t2 t3 y1 y2 y3 hos hcut a0 hv g hne hzr e1 l3 hol hf
      induction os with
      | nil => rfl
      | cons q os ih => simp only [List.flatMap_cons, List.length_append, List.length_map, List.flatten_cons, ih]
    omega
  have l5 : (ladr S (restsI os v)).length ≤ 1000000 := by simp [ladr, difs, restsI]; omega
  unfold restP' okR
  generalize hW : (os.flatMap fun q => q.map fun c => PyData.bool (!decide (gd v c.toNat = gd v (q.headD 0).toNat))) = W at *
  generalize hY : (os.flatMap fun q => q.map fun c => !decide (gd v c.toNat = gd v (q.headD 0).toNat)) = Y at *
  generalize rw_ S (restsI os v) = R at *
  generalize rw_ S v = V at *
  generalize rw_ S t = T at *
  generalize hA : ladr S (restsI os v) = A at *
  simp only [cl, tL, tI, List.map_cons] at *
  have y1' : ((o.map fun c => !decide (gd v c.toNat = 0)).any id) = !ok1 o v := by rw [List.any_map]; exact y1
  have y3' : ((A.map fun x => decide (x < 0)).any id) = !ok3 S (restsI os v) := by rw [List.any_map]; exact y3
  have lP : (o.map fun c => PyData.bool (!decide (gd v c.toNat = 0))).length ≤ 1000000 := by rw [List.length_map]; exact l2
  have lQ : (A.map fun x => PyData.bool (decide (x < 0))).length ≤ 1000000 := by rw [List.length_map]; exact l5
  generalize (o.map fun c => PyData.bool (!decide (gd v c.toNat = 0))) = P at *
  generalize (o.map fun c => !decide (gd v c.toNat = 0)) = P' at *
  generalize (A.map fun x => PyData.bool (decide (x < 0))) = Q at *
  generalize (A.map fun x => decide (x < 0)) = Q' at *
  generalize ok1 o v = k1 at *
  generalize ok2 os v = k2 at *
  generalize ok3 S (restsI os v) = k3 at *
  clear y1 y3
  cases k1 with
  | false =>
    simp only [Bool.not_false, Bool.not_true] at y1'
    simp [m_rests_by, b_rests_by, fnM, iZipM, e1, l1, a0, e2, lP, t1, y1']
  | true =>
    cases k2 with
    | false =>
      simp only [Bool.not_false, Bool.not_true] at y1' y2
      simp [m_rests_by, b_rests_by, fnM, iZipM, e1, l1, a0, e2, lP, t1, y1', hcut, e3, l3, e4, l4, t2, y2]
    | true =>
      cases k3 with
      | false =>
        simp only [Bool.not_false, Bool.not_true] at y1' y2 y3'
        simp [m_rests_by, b_rests_by, fnM, iZipM, e1, l1, a0, e2, lP, t1, y1', hcut, e3, l3, e4, l4, t2, y2, e5, e6, lQ, t3, y3']
      | true =>
        simp only [Bool.not_false, Bool.not_true] at y1' y2 y3'
        simp [m_rests_by, b_rests_by, fnM, iZipM, e1, l1, a0, e2, lP, t1, y1', hcut, e3, l3, e4, l4, t2, y2, e5, e6, lQ, t3, y3']
end MR
end
section
set_option Elab.async false
set_option linter.all false
set_option maxHeartbeats 1000000
set_option maxRecDepth 20000
set_option exponentiation.threshold 30000
namespace MR
open PySem PySem.Spec PyProof.Rows L2 VL MF
def partP (S : Int) (o : List Int) (os : List (List Int)) (v : List Int) : PyData := if okR S o os v = true then .tuple (rw_ S (ladr S (restsI os v)).reverse) else .none
theorem v_parts (μ : Mu) {S : Int} (s : SOk S) {ws o t : List Int} {os : List (List Int)} (g : G ws (o :: os)) (ht : TOk S ws t) : m_parts μ [.d (cl ws (o :: os)), .d (.tuple (rw_ S t))] = some (.d (partP S o os (ovP S ws t)), μ) := by
  have sp := s.pos
  have h3 := g.cls.n3
  have r1 := v_check_class μ g.cls
  have r2 := v_check_readings μ s (t := t) (n := ws.length) (by rw [ht.len]) (by rw [ht.len]; omega) (fun x hx => ⟨(ht.b x hx).1, by have := (ht.b x hx).2; omega⟩)
  have r3 := v_rests_by μ s g ht
  have hne := g.cls.ne
  obtain ⟨hv, hf, hol⟩ := g.sh
  have hz := ovZ s g ht
  have hzr : ∀ x ∈ restsI os (ovP S ws t), NmZ S x := fun x hx => by
    obtain ⟨q, hq, rfl⟩ := List.mem_map.mp hx
    obtain ⟨y, r, rfl⟩ := List.exists_cons_of_ne_nil (fun z => hne (by rw [← z]; exact hq) : q ≠ [])
    have := hv _ (List.mem_cons_of_mem _ hq) y (by simp)
    exact hz _ (gd_memI this.1 (by rw [ovP_len]; exact this.2))
  have r4 := v_rises μ s hzr (by simp [restsI]; omega)
  change m_rises μ _ = some (.d (.list (rw_ S (ladr S (restsI os (ovP S ws t))))), μ) at r4
  have rv := rev_rw S (ladr S (restsI os (ovP S ws t)))
  have a0 : atI [tI ws, tL (o :: os)] 0 = some (.tuple (nI ws)) := rfl
  unfold partP
  unfold restP' at r3
  generalize rw_ S (ladr S (restsI os (ovP S ws t))).reverse = R at *
  generalize rw_ S (ladr S (restsI os (ovP S ws t))) = A at *
  generalize rw_ S (restsI os (ovP S ws t)) = B at *
  generalize rw_ S t = T at *
  generalize okR S o os (ovP S ws t) = k at *
  simp only [cl] at *
  cases k with
  | false =>
    simp only [Bool.false_eq_true, if_false] at r3 ⊢
    simp [m_parts, b_parts, fnM, r1, a0, nI_len, r2, r3]
  | true =>
    simp only [if_true] at r3 ⊢
    simp [m_parts, b_parts, fnM, r1, a0, nI_len, r2, r3, r4, rv]
theorem v_is_by (μ : Mu) {S : Int} (s : SOk S) {ws o t : List Int} {os : List (List Int)} (g : G ws (o :: os)) (ht : TOk S ws t) : m_is_by μ [.d (cl ws (o :: os)), .d (.tuple (rw_ S t))] = some (.d (.bool (okR S o os (ovP S ws t))), μ) := by
  have sp := s.pos
  have h3 := g.cls.n3
  have hnm : ∀ x ∈ t, Nm S x := fun x hx => ⟨(ht.b x hx).1, by have := (ht.b x hx).2; omega⟩
  have r1 := v_check_class μ g.cls
  have r2 := v_check_readings μ s (t := t) (n := ws.length) (by rw [ht.len]) (by rw [ht.len]; omega) hnm
  have r3 := v_rests_by μ s g ht
  have r4 := v_check_low μ s (t := t) (by rw [ht.len]; omega) hnm (fun x hx => (ht.b x hx).2)
  have a0 : atI [tI ws, tL (o :: os)] 0 = some (.tuple (nI ws)) := rfl
  unfold restP' at r3
  generalize rw_ S (restsI os (ovP S ws t)) = B at *
  generalize rw_ S t = T at *
  generalize okR S o os (ovP S ws t) = k at *
  simp only [cl] at *
  cases k with
  | false =>
    simp only [Bool.false_eq_true, if_false] at r3
    simp [m_is_by, b_is_by, fnM, r1, a0, nI_len, r2, r3, r4]
  | true =>
    simp only [if_true] at r3
    simp [m_is_by, b_is_by, fnM, r1, a0, nI_len, r2, r3, r4]
/-! own parts -/
theorem oEq_lI (neg : Bool) (μ : Mu) (a b : List Int) : oEq neg μ (.d (.list (nI a))) (.d (.list (nI b))) = some (.d (.bool (if neg then !decide (a = b) else decide (a = b)))) := by
  rw [oEq_of (plain_list_nI a) (plain_list_nI b) (by simp [PyData.depth, depthA_nI])]
  simp [PyData.eqv, eqvA_nI]
theorem oEq_tI (neg : Bool) (μ : Mu) (a b : List Int) : oEq neg μ (.d (.tuple (nI a))) (.d (.tuple (nI b))) = some (.d (.bool (if neg then !decide (a = b) else decide (a = b)))) := by
  have := oEq_of (neg := neg) (μ := μ) (plain_tI a) (plain_tI b) (by rw [depth_tI]; omega)
  rw [eqv_tI] at this
  exact this
theorem lc_own (μ : Mu) {S : Int} (s : SOk S) {ws o t : List Int} {os : List (List Int)} (g : G ws (o :: os)) (ht : TOk S ws t) {q : List Int} (hq : ∀ c ∈ q, 0 ≤ c ∧ c < ws.length) (a b c d e f h i : Option Vw) :
    VL.lcM (tNm 11) bYes q1__law_own_parts none (nI q) (nI q) (wipeR [a, some (.d (.list (nI t))), some (.d (.int S)), some (.d (.tuple (nI ws))), b, c, d, e, f, h, i, none] [11]) μ = some (nI (q.map fun c => gd (ovP S ws t) c.toNat), μ) := by
  have sp := s.pos
  have sl := s.le
  show VL.lcM _ _ _ _ _ (q.map PyData.int) _ _ = _
  rw [lc_nI PyData.int (fun c => gd (ovP S ws t) c.toNat) q (fun c hc => by
    have h1 := atI_int (ws := ws) (hq c hc).1 (hq c hc).2
    have h2 := atI_int (ws := t) (hq c hc).1 (by rw [ht.len]; exact (hq c hc).2)
    have hw := g.hw _ (gd_memI (hq c hc).1 (hq c hc).2)
    have m1 : mulOk (gd ws c.toNat) S = true := mulOk_w (a := 8) (b := 60) (by omega) (by omega) (by omega)
    have e := gd_ovP (S := S) (t := t) (ws := ws) (c := c.toNat) (by have := hq c hc; omega)
    refine ⟨_, rfl, ?_⟩
    simp [q1__law_own_parts, wipeR, h1, h2, m1, e])]
theorem rep_nI (k : Nat) (x : Int) : (List.replicate k [PyData.int x]).flatten = nI (List.replicate k x) := by simp [nI]
theorem all_rep (f : Int → Int) (z : Int) : ∀ q : List Int, decide (q.map f = List.replicate q.length z) = q.all fun c => decide (f c = z)
  | [] => by simp
  | x :: q => by
    rw [List.all_cons, ← all_rep f z q, List.map_cons, List.length_cons, List.replicate_succ, Bool.eq_iff_iff]
    simp
theorem ok1_all {o v : List Int} (h : o ≠ []) : ok1 o v = ((o.all fun c => decide (gd v c.toNat = gd v (o.headD 0).toNat)) && decide (gd v (o.headD 0).toNat = 0)) := by
  obtain ⟨x, r, rfl⟩ := List.exists_cons_of_ne_nil h
  unfold ok1
  simp only [List.headD_cons]
  by_cases hx : gd v x.toNat = 0
  · simp [hx]
  · simp [hx]
theorem own_first (μ : Mu) {S : Int} (s : SOk S) {ws o t : List Int} {os : List (List Int)} (g : G ws (o :: os)) (ht : TOk S ws t) (a : Option Vw) (n1 n2 : Nat) (q8 : Option Vw) :
    ∃ q8', w2__law_own_parts [a, some (.d (.list (nI t))), some (.d (.int S)), some (.d (.tuple (nI ws))), some (.d (.tuple ((o :: os).map tI))), some (.loc n1), some (.loc n2), some (.d (tI o)), q8, none, none, none] μ =
      if ok1 o (ovP S ws t) = true then some (.nx [a, some (.d (.list (nI t))), some (.d (.int S)), some (.d (.tuple (nI ws))), some (.d (.tuple ((o :: os).map tI))), some (.loc n1), some (.loc n2), some (.d (tI o)), q8', none, none, none] μ) else some (.rt (.d .none) μ) := by
  have h3 := g.cls.n3
  have hv := g.sh.1 o (by simp)
  have hs := g.cls.sub (x := o) (by simp)
  have e1 := fun b c d e f h i => lc_own μ s g ht hv a b c d e f h i
  have c0 := oEq_nil true μ o
  have c1 : oEq true μ (.d (.tuple (nI o))) (.d (.tuple (nI o))) = some (.d (.bool false)) := by rw [oEq_tI]; simp
  have c2 : oEq false μ (.d (.tuple (nI o))) (.d (.tuple (nI o))) = some (.d (.bool true)) := by rw [oEq_tI]; simp
  have a0 : atI ((o :: os).map tI) 0 = some (.tuple (nI o)) := atI_tL0 _ _
  have hl : (nI (o.map fun c => gd (ovP S ws t) c.toNat)).length ≤ 1000 := by rw [nI_len, List.length_map]; omega
  by_cases ho : o = []
  · subst ho
    simp only [decide_true, Bool.not_true, if_true] at c0
    have k : ok1 [] (ovP S ws t) = true := rfl
    refine ⟨some (.d (.list (nI (([] : List Int).map fun c => gd (ovP S ws t) c.toNat)))), ?_⟩
    rw [if_pos k]
    simp only [tI] at *
    simp only [List.map_cons] at a0 ⊢
    simp only [tI] at *
    generalize (nI (List.map (fun (c : Int) => gd (ovP S ws t) c.toNat) [])) = N at *
    simp [w2__law_own_parts, e1, show N.length ≤ 1000000 by omega, -oEq, c0, a0, c1, c2]
  · rw [decide_eq_false ho] at c0
    simp only [Bool.not_false, if_true] at c0
    refine ⟨some (.d (.list (nI (o.map fun c => gd (ovP S ws t) c.toNat)))), ?_⟩
    rw [ok1_all ho]
    have b0 : atI (nI (o.map fun c => gd (ovP S ws t) c.toNat)) 0 = some (.int (gd (ovP S ws t) (o.headD 0).toNat)) := by
      obtain ⟨x, r, rfl⟩ := List.exists_cons_of_ne_nil ho
      exact atI0 _ _
    have c3 := oEq_lI true μ (o.map fun c => gd (ovP S ws t) c.toNat) (List.replicate o.length (gd (ovP S ws t) (o.headD 0).toNat))
    rw [all_rep (fun c => gd (ovP S ws t) c.toNat)] at c3
    have hrep := rep_nI o.length (gd (ovP S ws t) (o.headD 0).toNat)
    generalize hz : gd (ovP S ws t) (o.headD 0).toNat = z at *
    have hlen : (nI (o.map fun c => gd (ovP S ws t) c.toNat)).length = o.length := by rw [nI_len, List.length_map]
    simp only [tI] at *
    simp only [List.map_cons] at a0 ⊢
    simp only [tI] at *
    generalize (nI (o.map fun (c : Int) => gd (ovP S ws t) c.toNat)) = N at *
    generalize (nI (List.replicate o.length z)) = N2 at *
    generalize (o.all fun c => decide (gd (ovP S ws t) c.toNat = z)) = k1 at *
    have c4 : PyData.eqv (.int z) (.int 0) = decide (z = 0) := rfl
    cases k1 with
    | false =>
      simp only [Bool.not_false, if_true, Bool.false_and, Bool.false_eq_true, if_false] at c3 ⊢
      simp [w2__law_own_parts, e1, show N.length ≤ 1000000 by omega, -oEq, c0, a0, c1, c2, b0, hlen, hrep, show o.length ≤ 1000000 by omega, show (-1000000 : Int) ≤ o.length by omega, show (o.length : Int) ≤ 1000000 by omega, c3]
    | true =>
      simp only [Bool.not_true, if_true, Bool.true_and] at c3 ⊢
      by_cases hz0 : z = 0
      · have c5 : oEq true μ (.d (.int z)) (.d (.int 0)) = some (.d (.bool false)) := by simp [hz0, PyData.plain, PyData.depth, c4]; rfl
        rw [if_pos (by simpa using hz0)]
        simp [w2__law_own_parts, e1, show N.length ≤ 1000000 by omega, -oEq, c0, a0, c1, c2, b0, hlen, hrep, show o.length ≤ 1000000 by omega, show (-1000000 : Int) ≤ o.length by omega, show (o.length : Int) ≤ 1000000 by omega, c3, c5]
      · have c5 : oEq true μ (.d (.int z)) (.d (.int 0)) = some (.d (.bool true)) := by simp [hz0, PyData.plain, PyData.depth, c4]
        rw [if_neg (by simpa using hz0)]
        simp [w2__law_own_parts, e1, show N.length ≤ 1000000 by omega, -oEq, c0, a0, c1, c2, b0, hlen, hrep, show o.length ≤ 1000000 by omega, show (-1000000 : Int) ≤ o.length by omega, show (o.length : Int) ≤ 1000000 by omega, c3, c5]
end MR
end
section
set_option Elab.async false
set_option linter.all false
set_option maxHeartbeats 1000000
set_option maxRecDepth 20000
set_option exponentiation.threshold 30000
namespace MR
open PySem PySem.Spec PyProof.Rows L2 VL MF
theorem own_step (μ0 : Mu) {S : Int} (s : SOk S) {ws o t q : List Int} {os : List (List Int)} (g : G ws (o :: os)) (ht : TOk S ws t) (a : Option Vw) (n2 : Nat) (q8 : Option Vw) (hv : ∀ c ∈ q, 0 ≤ c ∧ c < ws.length) (hq : q ≠ []) (hqo : q ≠ o) (hs : q.length ≤ 3) (acc : List Int) (F : List PyData) (ha : acc.length ≤ 100) :
    ∃ q8', w2__law_own_parts [a, some (.d (.list (nI t))), some (.d (.int S)), some (.d (.tuple (nI ws))), some (.d (.tuple ((o :: os).map tI))), some (.loc μ0.length), some (.loc n2), some (.d (tI q)), q8, none, none, none] (μ0 ++ [nI acc, F]) =
      if (q.all fun c => decide (gd (ovP S ws t) c.toNat = gd (ovP S ws t) (q.headD 0).toNat)) = true then some (.nx [a, some (.d (.list (nI t))), some (.d (.int S)), some (.d (.tuple (nI ws))), some (.d (.tuple ((o :: os).map tI))), some (.loc μ0.length), some (.loc n2), some (.d (tI q)), q8', none, none, none] (μ0 ++ [nI (acc ++ [gd (ovP S ws t) (q.headD 0).toNat]), F])) else some (.rt (.d .none) (μ0 ++ [nI acc, F])) := by
  have e1 := fun b c d e f h i => lc_own (μ0 ++ [nI acc, F]) s g ht hv a b c d e f h i
  have c0 : oEq true (μ0 ++ [nI acc, F]) (.d (.tuple (nI q))) (.d (.tuple [])) = some (.d (.bool true)) := by rw [oEq_nil, decide_eq_false hq]; rfl
  have c1 : oEq true (μ0 ++ [nI acc, F]) (.d (.tuple (nI q))) (.d (.tuple (nI o))) = some (.d (.bool true)) := by rw [oEq_tI, decide_eq_false hqo]; rfl
  have c2 : oEq false (μ0 ++ [nI acc, F]) (.d (.tuple (nI q))) (.d (.tuple (nI o))) = some (.d (.bool false)) := by rw [oEq_tI, decide_eq_false hqo]; rfl
  have a0 : atI ((o :: os).map tI) 0 = some (.tuple (nI o)) := atI_tL0 _ _
  have hl : (nI (q.map fun c => gd (ovP S ws t) c.toNat)).length ≤ 1000 := by rw [nI_len, List.length_map]; omega
  refine ⟨some (.d (.list (nI (q.map fun c => gd (ovP S ws t) c.toNat)))), ?_⟩
  have b0 : atI (nI (q.map fun c => gd (ovP S ws t) c.toNat)) 0 = some (.int (gd (ovP S ws t) (q.headD 0).toNat)) := by
    obtain ⟨x, r, rfl⟩ := List.exists_cons_of_ne_nil hq
    exact atI0 _ _
  have c3 := oEq_lI true (μ0 ++ [nI acc, F]) (q.map fun c => gd (ovP S ws t) c.toNat) (List.replicate q.length (gd (ovP S ws t) (q.headD 0).toNat))
  rw [all_rep (fun c => gd (ovP S ws t) c.toNat)] at c3
  have hrep := rep_nI q.length (gd (ovP S ws t) (q.headD 0).toNat)
  generalize hz : gd (ovP S ws t) (q.headD 0).toNat = z at *
  have hlen : (nI (q.map fun c => gd (ovP S ws t) c.toNat)).length = q.length := by rw [nI_len, List.length_map]
  have g1 : (μ0 ++ [nI acc, F])[μ0.length]? = some (nI acc) := by simp
  have g2 : (μ0 ++ [nI acc, F]).set μ0.length (nI acc ++ [.int z]) = μ0 ++ [nI acc ++ [.int z], F] := by simp
  have g3 : nI (acc ++ [z]) = nI acc ++ [.int z] := by simp [nI]
  have g4 : (nI acc).length < 1000000 := by rw [nI_len]; omega
  rw [g3]
  simp only [tI] at *
  simp only [List.map_cons] at a0 ⊢
  simp only [tI] at *
  generalize (nI (q.map fun (c : Int) => gd (ovP S ws t) c.toNat)) = N at *
  generalize (nI (List.replicate q.length z)) = N2 at *
  generalize (q.all fun c => decide (gd (ovP S ws t) c.toNat = z)) = k1 at *
  generalize nI acc = A at *
  generalize hM : μ0 ++ [A, F] = M at *
  cases k1 with
  | false =>
    simp only [Bool.not_false, if_true, Bool.false_eq_true, if_false] at c3 ⊢
    simp [w2__law_own_parts, e1, show N.length ≤ 1000000 by omega, -oEq, c0, a0, c1, c2, b0, hlen, hrep, show q.length ≤ 1000000 by omega, show (-1000000 : Int) ≤ q.length by omega, show (q.length : Int) ≤ 1000000 by omega, c3]
  | true =>
    simp only [Bool.not_true, if_true] at c3 ⊢
    simp [w2__law_own_parts, e1, show N.length ≤ 1000000 by omega, -oEq, c0, a0, c1, c2, b0, hlen, hrep, show q.length ≤ 1000000 by omega, show (-1000000 : Int) ≤ q.length by omega, show (q.length : Int) ≤ 1000000 by omega, c3, g1, g2, g4]
theorem own_go (μ0 : Mu) {S : Int} (s : SOk S) {ws o t : List Int} {os : List (List Int)} (g : G ws (o :: os)) (ht : TOk S ws t) (a : Option Vw) (n2 : Nat) (F : List PyData) (all : List PyData) : ∀ (l : List (List Int)) (acc : List Int) (q7 q8 : Option Vw), (∀ q ∈ l, q ∈ os ∧ q ≠ o) → acc.length + l.length ≤ 100 →
    ∃ q7' q8' acc', VL.forM (tNm 7) w2__law_own_parts none all (l.map tI) [a, some (.d (.list (nI t))), some (.d (.int S)), some (.d (.tuple (nI ws))), some (.d (.tuple ((o :: os).map tI))), some (.loc μ0.length), some (.loc n2), q7, q8, none, none, none] (μ0 ++ [nI acc, F]) =
      if ok2 l (ovP S ws t) = true then some (.nx [a, some (.d (.list (nI t))), some (.d (.int S)), some (.d (.tuple (nI ws))), some (.d (.tuple ((o :: os).map tI))), some (.loc μ0.length), some (.loc n2), q7', q8', none, none, none] (μ0 ++ [nI (acc ++ restsI l (ovP S ws t)), F])) else some (.rt (.d .none) (μ0 ++ [nI acc', F]))
  | [], acc, q7, q8, _, _ => ⟨q7, q8, acc, by simp [VL.forM, srcOk_none, ok2, restsI]⟩
  | q :: l, acc, q7, q8, h, hb => by
    obtain ⟨hq, hqo⟩ := h q (by simp)
    simp only [List.length_cons] at hb
    have hne : q ≠ [] := fun z => g.cls.ne (by rw [← z]; exact hq)
    obtain ⟨q8a, e1⟩ := own_step μ0 s g ht a n2 q8 (g.sh.1 q (List.mem_cons_of_mem _ hq)) hne hqo (g.cls.sub (List.mem_cons_of_mem _ hq)) acc F (by omega)
    obtain ⟨q7', q8', acc', e2⟩ := own_go μ0 s g ht a n2 F all l (acc ++ [gd (ovP S ws t) (q.headD 0).toNat]) (some (.d (tI q))) q8a (fun x hx => h x (List.mem_cons_of_mem _ hx)) (by simp; omega)
    have er : restsI (q :: l) (ovP S ws t) = gd (ovP S ws t) (q.headD 0).toNat :: restsI l (ovP S ws t) := rfl
    have eo : ok2 (q :: l) (ovP S ws t) = ((q.all fun c => decide (gd (ovP S ws t) c.toNat = gd (ovP S ws t) (q.headD 0).toNat)) && ok2 l (ovP S ws t)) := rfl
    have ea : acc ++ [gd (ovP S ws t) (q.headD 0).toNat] ++ restsI l (ovP S ws t) = acc ++ restsI (q :: l) (ovP S ws t) := by rw [er]; simp
    rw [ea] at e2
    rw [eo]
    generalize (q.all fun c => decide (gd (ovP S ws t) c.toNat = gd (ovP S ws t) (q.headD 0).toNat)) = k at *
    generalize nI (acc ++ [gd (ovP S ws t) (q.headD 0).toNat]) = A2 at *
    cases k with
    | false =>
      refine ⟨q7', q8', acc, ?_⟩
      simp only [Bool.false_eq_true, if_false, Bool.false_and] at e1 ⊢
      simp [VL.forM, srcOk_none] at e1 ⊢
      rw [e1]
    | true =>
      refine ⟨q7', q8', acc', ?_⟩
      simp only [if_true, Bool.true_and] at e1 ⊢
      rw [← e2]
      simp only [List.map_cons] at e1 ⊢
      simp [VL.forM, srcOk_none, e1]
theorem ok3_srt {S : Int} (s : 0 ≤ S) {r : List Int} (h : r.length ≤ 3) : ok3 S r = (decide (0 :: r = isrt (0 :: r)) && decide ((0 :: r).getLastD 0 ≤ S)) := by
  have hp : decide (0 :: r = isrt (0 :: r)) = decide ((0 :: r).Pairwise (· ≤ ·)) := by
    rw [Bool.eq_iff_iff, decide_eq_true_eq, decide_eq_true_eq]
    exact ⟨fun e => by rw [e]; exact isrt_srt _, fun h => isrt_eq (.refl _) h⟩
  rw [hp, Bool.eq_iff_iff]
  match r, h with
  | [], _ => simp [ok3, ladr, difs]
  | [a], _ => simp [ok3, ladr, difs] <;> omega
  | [a, b], _ => simp [ok3, ladr, difs] <;> omega
  | [a, b, c], _ => simp [ok3, ladr, difs] <;> omega
def fndP (S : Int) (rs : List Int) (m : Nat) : Int := (if m = 0 then S else gd rs (rs.length - m)) - gd rs (rs.length - m - 1)
theorem fnd_eq {S : Int} {r : List Int} (h : r.length ≤ 3) : (List.range (0 :: r).length).map (fndP S (0 :: r)) = (ladr S r).reverse := by
  match r, h with
  | [], _ => simp [fndP, ladr, difs, gd]
  | [a], _ => simp [fndP, ladr, difs, gd, List.range_succ]
  | [a, b], _ => simp [fndP, ladr, difs, gd, List.range_succ]
  | [a, b, c], _ => simp [fndP, ladr, difs, gd, List.range_succ]
theorem fnd_go (μ0 : Mu) (S : Int) (rs : List Int) (hr : rs.length ≤ 100) (a b c d f g : Option Vw) (all : List PyData) : ∀ (l : List Nat) (acc : List Int) (q9 q10 : Option Vw), (∀ m ∈ l, m < rs.length) → acc.length + l.length ≤ 1000 →
    ∃ q9' q10', VL.forM (tNm 9) w3__law_own_parts none all (l.map fun (m : Nat) => PyData.int (m : Int)) [a, b, some (.d (.int S)), c, d, some (.loc μ0.length), some (.loc (μ0.length + 1)), f, g, q9, q10, none] (μ0 ++ [nI rs, nI acc]) =
      some (.nx [a, b, some (.d (.int S)), c, d, some (.loc μ0.length), some (.loc (μ0.length + 1)), f, g, q9', q10', none] (μ0 ++ [nI rs, nI (acc ++ l.map (fndP S rs))]))
  | [], acc, q9, q10, _, _ => ⟨q9, q10, by simp [VL.forM, srcOk_none]⟩
  | m :: l, acc, q9, q10, h, hb => by
    have hm := h m (by simp)
    simp only [List.length_cons] at hb
    have g0 : (μ0 ++ [nI rs, nI acc])[μ0.length]? = some (nI rs) := by simp
    have g1 : (μ0 ++ [nI rs, nI acc])[μ0.length + 1]? = some (nI acc) := by rw [List.getElem?_append_right (by omega)]; simp
    have g2 : ∀ x : Int, (μ0 ++ [nI rs, nI acc]).set (μ0.length + 1) (nI acc ++ [.int x]) = μ0 ++ [nI rs, nI (acc ++ [x])] := fun x => by
      rw [List.set_append_right _ _ (by omega)]
      simp [nI]
    have g4 : (nI acc).length < 1000000 := by rw [nI_len]; omega
    have ix1 : atI (nI rs) ((rs.length : Int) - m - 1) = some (.int (gd rs (rs.length - m - 1))) := by
      have := atI_nI (ws := rs) (i := rs.length - m - 1) (by omega)
      rw [show ((rs.length : Int) - m - 1) = ((rs.length - m - 1 : Nat) : Int) by omega]
      exact this
    have el : (nI rs).length = rs.length := nI_len rs
    by_cases h0 : m = 0
    · subst h0
      obtain ⟨q9', q10', e⟩ := fnd_go μ0 S rs hr a b c d f g all l (acc ++ [fndP S rs 0]) (some (.d (.int 0))) (some (.d (.int S))) (fun x hx => h x (List.mem_cons_of_mem _ hx)) (by simp; omega)
      refine ⟨q9', q10', ?_⟩
      have ea : acc ++ (0 :: l).map (fndP S rs) = acc ++ [fndP S rs 0] ++ l.map (fndP S rs) := by simp
      rw [ea, ← e]
      have ef : fndP S rs 0 = S - gd rs (rs.length - 0 - 1) := by simp [fndP]
      have g2' := g2 (S - gd rs (rs.length - 0 - 1))
      rw [ef]
      simp only [Int.natCast_zero, Int.ofNat_zero] at ix1 ⊢
      generalize hM : μ0 ++ [nI rs, nI acc] = M at *
      generalize nI rs = R at *
      generalize nI acc = A at *
      simp at ix1 g2' ⊢
      simp [VL.forM, srcOk_none, w3__law_own_parts, PyData.eqv, PyData.plain, PyData.depth, g0, el, ix1, g1, g4, g2']
    · obtain ⟨q9', q10', e⟩ := fnd_go μ0 S rs hr a b c d f g all l (acc ++ [fndP S rs m]) (some (.d (.int (m : Nat)))) (some (.d (.int (gd rs (rs.length - m))))) (fun x hx => h x (List.mem_cons_of_mem _ hx)) (by simp; omega)
      refine ⟨q9', q10', ?_⟩
      have ea : acc ++ (m :: l).map (fndP S rs) = acc ++ [fndP S rs m] ++ l.map (fndP S rs) := by simp
      rw [ea, ← e]
      have ef : fndP S rs m = gd rs (rs.length - m) - gd rs (rs.length - m - 1) := by simp [fndP, h0]
      have g2' := g2 (gd rs (rs.length - m) - gd rs (rs.length - m - 1))
      have ix2 : atI (nI rs) ((rs.length : Int) - m) = some (.int (gd rs (rs.length - m))) := by
        have := atI_nI (ws := rs) (i := rs.length - m) (by omega)
        rw [show ((rs.length : Int) - m) = ((rs.length - m : Nat) : Int) by omega]
        exact this
      have hb0 : ((m : Int) == 0) = false := by simp; omega
      rw [ef]
      generalize gd rs (rs.length - m) = z1 at *
      generalize gd rs (rs.length - m - 1) = z2 at *
      generalize hM : μ0 ++ [nI rs, nI acc] = M at *
      generalize nI rs = R at *
      generalize nI acc = A at *
      simp [VL.forM, srcOk_none, w3__law_own_parts, PyData.eqv, PyData.plain, PyData.depth, hb0, g0, el, ix1, ix2, g1, g4, g2']
end MR
end
section
set_option Elab.async false
set_option linter.all false
set_option maxHeartbeats 1000000
set_option maxRecDepth 20000
set_option exponentiation.threshold 30000
namespace MR
open PySem PySem.Spec PyProof.Rows L2 VL MF
def ownD (S : Int) (o : List Int) (os : List (List Int)) (v : List Int) : PyData := if okR S o os v = true then .list (nI (ladr S (restsI os v)).reverse) else .none
theorem ne_facts : ∀ n ∈ [1, 2, 3], ∀ s ∈ sh n, ∀ q ∈ s.tail, q ≠ s.headD [] := by decide +kernel
theorem nI_last {l : List Int} (h : l ≠ []) : atI (nI l) (-1) = some (.int (l.getLastD 0)) := by
  obtain ⟨x, r, rfl⟩ := List.exists_cons_of_ne_nil h
  have := atI_last (nI r) (.int x)
  rw [getLastD_mem h]
  have e : ((x :: r).map PyData.int).getLast (by simp) = PyData.int ((x :: r).getLast (by simp)) := List.getLast_map _
  simp only [nI, List.map_cons] at this e ⊢
  rw [this, e]
theorem v_own_parts (μ : Mu) {S : Int} (s : SOk S) {ws o t : List Int} {os : List (List Int)} (g : G ws (o :: os)) (ht : TOk S ws t) : m__law_own_parts μ [.d (cl ws (o :: os)), .d (.list (nI t)), .d (.int S)] = some (.d (ownD S o os (ovP S ws t)), μ) := by
  have sp := s.pos
  have h3 := g.cls.n3
  have hol := g.cls.olen
  have nf := ne_facts _ g.hn _ g.hs
  simp only [List.tail_cons, List.headD_cons] at nf
  obtain ⟨q8, e1⟩ := own_first (μ ++ [nI [0], []]) s g ht (some (.d (cl ws (o :: os)))) μ.length (μ.length + 1) none
  obtain ⟨q7', q8', acc', e2⟩ := own_go μ s g ht (some (.d (cl ws (o :: os)))) (μ.length + 1) [] ((o :: os).map tI) os [0] (some (.d (tI o))) q8 (fun q hq => ⟨hq, nf q hq⟩) (by simp; omega)
  have hrl : (restsI os (ovP S ws t)).length ≤ 3 := by simp [restsI]; omega
  have k3 := ok3_srt (S := S) (by omega) hrl
  have ef := fnd_eq (S := S) hrl
  have eo : [0] ++ restsI os (ovP S ws t) = 0 :: restsI os (ovP S ws t) := rfl
  rw [eo] at e2
  unfold ownD okR
  rw [← ef, k3]
  generalize hk1 : ok1 o (ovP S ws t) = k1 at *
  generalize hk2 : ok2 os (ovP S ws t) = k2 at *
  generalize hr : restsI os (ovP S ws t) = r at *
  obtain ⟨q9', q10', e3⟩ := fnd_go μ S (0 :: r) (by simp; omega) (some (.d (cl ws (o :: os)))) (some (.d (.list (nI t)))) (some (.d (.tuple (nI ws)))) (some (.d (.tuple ((o :: os).map tI)))) q7' q8' (rngD 0 (0 :: r).length) (List.range (0 :: r).length) [] none none (fun m hm => by simpa using hm) (by simp; omega)
  rw [← rngD_map, List.nil_append] at e3
  have z0 : nI ([0] : List Int) = [PyData.int 0] := rfl
  have z1 : nI ([] : List Int) = [] := rfl
  rw [z0] at e1 e2
  rw [z1] at e3
  have g0 : (μ ++ [nI (0 :: r), []])[μ.length]? = some (nI (0 :: r)) := by simp
  have g5 : (μ ++ [nI (0 :: r), nI ((List.range (0 :: r).length).map (fndP S (0 :: r)))])[μ.length + 1]? = some (nI ((List.range (0 :: r).length).map (fndP S (0 :: r)))) := by rw [List.getElem?_append_right (by omega)]; simp
  have c4 := oEq_lI true (μ ++ [nI (0 :: r), []]) (0 :: r) (isrt (0 :: r))
  have c4' : oEq true (μ ++ [nI (0 :: r), []]) (.loc μ.length) (.d (.list (nI (isrt (0 :: r))))) = some (.d (.bool (!decide (0 :: r = isrt (0 :: r))))) := by
    rw [if_pos rfl] at c4
    rw [← c4]
    simp only [oEq, toD, g0, Option.map_some]
  have hti := toI_nI (0 :: r)
  have hla := nI_last (l := 0 :: r) (by simp)
  have hlen : (nI (0 :: r)).length = (0 :: r).length := nI_len _
  have hrg := rg_of (n := (0 :: r).length) (by simp; omega)
  have hsub : (isrt (0 :: r)).map PyData.int = nI (isrt (0 :: r)) := rfl
  have g6 : ((nI ((List.range (0 :: r).length).map (fndP S (0 :: r))))).length ≤ 1000000 := by rw [nI_len]; simp; omega
  simp only [List.map_cons] at e1 e2 e3
  simp only [cl, tL, tI, List.map_cons] at *
  generalize hQ : nI ((List.range (0 :: r).length).map (fndP S (0 :: r))) = Q at *
  generalize hN : nI (0 :: r) = N at *
  generalize hI : nI (isrt (0 :: r)) = I at *
  generalize hz : (0 :: r).getLastD 0 = z at *
  generalize hkk : (0 :: r).length = kk at *
  generalize hj : decide (0 :: r = isrt (0 :: r)) = j at *
  cases k1 with
  | false =>
    simp only [Bool.false_eq_true, if_false, Bool.false_and] at e1 ⊢
    simp [m__law_own_parts, b__law_own_parts, fnM, VL.forM, srcOk_none, e1]
  | true =>
    simp only [if_true, Bool.true_and] at e1 ⊢
    cases k2 with
    | false =>
      simp only [Bool.false_eq_true, if_false, Bool.false_and] at e2 ⊢
      simp [m__law_own_parts, b__law_own_parts, fnM, VL.forM, srcOk_none, e1, e2]
    | true =>
      simp only [if_true, Bool.true_and] at e2 ⊢
      cases j with
      | false =>
        simp only [Bool.not_false, Bool.false_and, Bool.false_eq_true, if_false] at c4' ⊢
        simp [m__law_own_parts, b__law_own_parts, fnM, VL.forM, srcOk_none, e1, e2, -oEq, g0, hti, hsub, c4']
      | true =>
        simp only [Bool.not_true, Bool.true_and] at c4' ⊢
        by_cases hzs : z ≤ S
        · rw [if_pos (by simpa using hzs)]
          have hz2 : ¬ S < z := by omega
          simp [m__law_own_parts, b__law_own_parts, fnM, VL.forM, srcOk_none, e1, e2, -oEq, g0, hti, hsub, c4', hla, hz2, hlen, hrg, e3, g5]
        · rw [if_neg (by simpa using hzs)]
          have hz2 : S < z := by omega
          simp [m__law_own_parts, b__law_own_parts, fnM, VL.forM, srcOk_none, e1, e2, -oEq, g0, hti, hsub, c4', hla, hz2]
end MR
end
section
set_option Elab.async false
set_option linter.all false
set_option maxHeartbeats 1000000
set_option maxRecDepth 20000
set_option exponentiation.threshold 30000
namespace MR
open PySem PySem.Spec PyProof.Rows L2 VL MF
theorem lowB {S : Int} (s : SOk S) : S.natAbs < 2 ^ 8000 := by
  have := s.pos; have := s.le
  exact Nat.lt_trans (show S.natAbs < 2 ^ 60 by omega) (Nat.pow_lt_pow_right (by decide) (by decide))
theorem v_co_told (μ : Mu) {S : Int} (s : SOk S) {t : List Int} (hl : t.length ≤ 1000) : m__law_co_told μ [.d (.list (nI t)), .d (.int S)] = some (.d (.tuple (rw_ S t)), μ) := by
  have e1 := lcE0 (t := tNm 2) (fe := q1__law_co_told) (all := nI t) (ρ := wipeR [some (.d (.list (nI t))), some (.d (.int S)), none] [2]) (μ := μ) PyData.int (fun x => fr (L x S)) t (fun x hx => by
    have := v_co_low μ x S s.pos (lowB s)
    refine ⟨_, rfl, ?_⟩
    simp only [fr] at this ⊢
    simp [q1__law_co_told, wipeR, this])
  rw [kE, show t.map (fun x => fr (L x S)) = rw_ S t from rfl] at e1
  have ll : (rw_ S t).length ≤ 1000000 := by rw [rw_len]; omega
  generalize rw_ S t = R at *
  simp [m__law_co_told, b__law_co_told, fnM, e1, ll]
theorem lc_due (μ : Mu) {S : Int} (s : SOk S) (l : List Int) (a b c e f g h i j k : Option Vw) : VL.lcM (tNm 11) bYes q1__law_near_right none (nI l) (nI l) (wipeR [a, b, c, some (.d (.int S)), e, f, g, h, i, j, k, none] [11]) μ = some (rw_ S l, μ) := by
  show VL.lcM _ _ _ _ _ (l.map PyData.int) _ _ = _
  rw [lcE0 PyData.int (fun x => fr (L x S)) l (fun x hx => by
    have := v_co_low μ x S s.pos (lowB s)
    refine ⟨_, rfl, ?_⟩
    simp only [fr] at this ⊢
    simp [q1__law_near_right, wipeR, this])]
  rfl
theorem set_nI {t : List Int} {j : Nat} (hj : j < t.length) (y : Int) : (nI t).take j ++ (PyData.int y :: (nI t).drop (j + 1)) = nI (t.set j y) := by
  have : t.set j y = t.take j ++ y :: t.drop (j + 1) := List.set_eq_take_append_cons_drop.trans (by rw [if_pos hj])
  rw [this]; simp [nI]
theorem near_step {μ : Mu} {n : Nat} (d : Dice μ n) {S : Int} (s : SOk S) {ws o t : List Int} {os : List (List Int)} (g : G ws (o :: os)) (ht : TOk S ws t) (q4 q5 q6 q7 q8 q9 q10 : Option Vw) :
    ∃ q5' q6' q7' q8' q9' q10' μ', w2__law_near_right [some (.loc n), some (.d (cl ws (o :: os))), some (.d (.list (nI t))), some (.d (.int S)), q4, q5, q6, q7, q8, q9, q10, none] μ =
      some (.nx [some (.loc n), some (.d (cl ws (o :: os))), some (.d (.list (nI t))), some (.d (.int S)), q4, q5', q6', q7', q8', q9', q10', none] μ') ∧ DU μ n μ' := by
  have sp := s.pos
  have sl := s.le
  have h0 := g.cls.n0
  have h3 := g.cls.n3
  have hlen := ht.len
  obtain ⟨r, μ1, r0, r1, u1, e1⟩ := v_roll' d (most := (t.length : Int)) (by omega) (by omega)
  obtain ⟨r2, μ2, s0, s1, u2, e2⟩ := v_roll (u1.dice d) (most := S + 1) (by omega) (by
    exact Nat.lt_trans (show (S + 1).natAbs < 2 ^ 61 by omega) (Nat.pow_lt_pow_right (by decide) (by decide)))
  have d2 := (u1.trans u2).dice d
  obtain ⟨p, μ3, hp, u3, e3⟩ := v_pick d2 (ds := [.int 1, .int (-1), .int S, .int (0 - S), .int r2]) (by simp) (by simp)
  obtain ⟨x, rfl⟩ : ∃ x : Int, p = .int x := by
    simp at hp
    rcases hp with rfl | rfl | rfl | rfl | rfl <;> exact ⟨_, rfl⟩
  obtain ⟨j, rfl⟩ := Int.eq_ofNat_of_zero_le r0
  have hj : j < t.length := by omega
  have a1 := atI_nI (ws := t) (i := j) hj
  have m1 : mulOk 4 S = true := mulOk_w (a := 8) (b := 60) (by decide) (by omega) (by omega)
  have c1 := cutU (nI t) j (by rw [nI_len]; omega)
  have c2 := cutk (nI t) (j + 1) (by rw [nI_len]; omega)
  push_cast at c2
  obtain ⟨y, hy⟩ : ∃ y, y = (if (if gd t j + x > 0 then gd t j + x else 0) < 4 * S then (if gd t j + x > 0 then gd t j + x else 0) else 4 * S) := ⟨_, rfl⟩
  have es := set_nI hj y
  have ht2 : TOk S ws (t.set j y) := ⟨by simpa using hlen, fun z hz => by
    rcases mem_set hz with hz | rfl
    · exact ht.b z hz
    · rw [hy]; split <;> split <;> omega⟩
  have r3 := v_own_parts μ3 s g ht2
  have r4 := v_co_told μ3 s (t := t.set j y) (by simp; omega)
  have r5 := v_parts μ3 s g ht2
  have r6 := v_is_by μ3 s g ht2
  have lB : (nI t).length ≤ 4 := by rw [nI_len]; omega
  have hln : (nI t).length = t.length := nI_len t
  have m2 : min j (nI t).length ≤ 999999 := by omega
  have m3 : min j (nI t).length + 1 + ((nI t).length - (j + 1)) ≤ 1000000 := by omega
  have l6 : (rw_ S (ladr S (restsI os (ovP S ws (t.set j y)))).reverse).length ≤ 1000000 := by
    have := g.cls.olen
    rw [rw_len]; simp [ladr, difs, restsI]; omega
  have r7 := fun a b c e f g h i j' k => lc_due μ3 s (ladr S (restsI os (ovP S ws (t.set j y)))).reverse a b c e f g h i j' k
  unfold partP at r5
  unfold ownD at r3
  have q1 := fun neg => oEq_self (μ := μ3) (plain_rt S (ladr S (restsI os (ovP S ws (t.set j y)))).reverse) (depth_rt S _) neg
  have bq : ∀ a b : Bool, PyData.eqv (.bool a) (.bool b) = (a == b) := fun a b => by cases a <;> cases b <;> rfl
  refine ⟨some (.d (.int (j : Nat))), some (.d (.int x)), some (.d (.list (nI (t.set j y)))), some (.d (if okR S o os (ovP S ws (t.set j y)) = true then .list (nI (ladr S (restsI os (ovP S ws (t.set j y)))).reverse) else .none)), some (.d (.tuple (rw_ S (t.set j y)))), some (.d (if okR S o os (ovP S ws (t.set j y)) = true then .tuple (rw_ S (ladr S (restsI os (ovP S ws (t.set j y)))).reverse) else .none)), μ3, ?_, (u1.trans u2).trans u3⟩
  have hyy : ∀ z : Int, z = y → nI (t.set j y) = (nI t).take j ++ (PyData.int z :: (nI t).drop (j + 1)) := fun z hz => by rw [hz, es]
  generalize hT2 : nI (t.set j y) = T2 at *
  generalize rw_ S (t.set j y) = T3 at *
  generalize hk : okR S o os (ovP S ws (t.set j y)) = k at *
  generalize hD : rw_ S (ladr S (restsI os (ovP S ws (t.set j y)))).reverse = D at *
  generalize hE : nI (ladr S (restsI os (ovP S ws (t.set j y)))).reverse = E at *
  generalize cl ws (o :: os) = C at *
  generalize hT : nI t = T at *
  simp only [gt_iff_lt] at hy
  have hX : ∀ M : Mu, sPar 5 6 (aCons (eCall 2 m__law_roll (aCons (eV 0) (aCons (eBi oLen (aCons (eV 2) aNil)) aNil))) (aCons (eCall 2 m__law_pick (aCons (eV 0) (aCons (eLst (aCons (eC (.int 1)) (aCons (eB1 oNeg (eC (.int 1))) (aCons (eV 3) (aCons (eB2 oSub (eC (.int 0)) (eV 3)) (aCons (eCall 2 m__law_roll (aCons (eV 0) (aCons (eB2 oAdd (eV 3) (eC (.int 1))) aNil))) aNil)))))) aNil))) aNil)) [some (.loc n), some (.d C), some (.d (.list T)), some (.d (.int S)), q4, q5, q6, q7, q8, q9, q10, none] μ =
      some (.nx [some (.loc n), some (.d C), some (.d (.list T)), some (.d (.int S)), q4, some (.d (.int (j : Nat))), some (.d (.int x)), q7, q8, q9, q10, none] μ3) := fun _ => by
    simp at e3
    simp [e1, e2, e3, hln]
  have hN : sAsg (eB2 oAdd (eB2 oAdd (eSl (eV 2) oNo (oYes (eV 5))) (eLst (aCons (eBi oMin2 (aCons (eB2 oMul (eC (.int 4)) (eV 3)) (aCons (eBi oMax2 (aCons (eC (.int 0)) (aCons (eB2 oAdd (eB2 oIx (eV 2) (eV 5)) (eV 6)) aNil))) aNil))) aNil))) (eSl (eV 2) (oYes (eB2 oAdd (eV 5) (eC (.int 1)))) oNo)) (tNm 7) [some (.loc n), some (.d C), some (.d (.list T)), some (.d (.int S)), q4, some (.d (.int (j : Nat))), some (.d (.int x)), q7, q8, q9, q10, none] μ3 =
      some (.nx [some (.loc n), some (.d C), some (.d (.list T)), some (.d (.int S)), q4, some (.d (.int (j : Nat))), some (.d (.int x)), some (.d (.list T2)), q8, q9, q10, none] μ3) := by
    simp [a1, m1, c1, c2, m2, m3]
    rw [← hy]; exact es
  have hc : ∀ (f g : SF) (ρ ρ1 : Rho) (μ μ1 : Mu) (r : Option SR), f ρ μ = some (.nx ρ1 μ1) → g ρ1 μ1 = r → sSeq f g ρ μ = r := fun f g ρ ρ1 μ μ1 r h1 h2 => by rw [sSeq, h1]; exact h2
  unfold w2__law_near_right
  refine hc _ _ _ _ _ _ _ (hX []) (hc _ _ _ _ _ _ _ hN ?_)
  clear hX hN es hyy e1 e2 e3
  cases k with
  | false =>
    simp only [Bool.false_eq_true, if_false] at r3 r5 ⊢
    simp [r3, r4, r5, r6, PyData.plain, PyData.depth, bq]
  | true =>
    simp only [if_true] at r3 r5 ⊢
    have q2 := q1 true
    have q3 : ∀ b : Bool, oEq true μ3 (.d (.bool b)) (.d (.bool b)) = some (.d (.bool false)) := fun b => by cases b <;> simp [PyData.plain, PyData.depth, bq]
    simp [r3, r4, r5, r6, r7, l6, -oEq, q2, q3]
theorem v_near_right {μ : Mu} {n : Nat} (d : Dice μ n) {S : Int} (s : SOk S) {ws o t : List Int} {os : List (List Int)} (g : G ws (o :: os)) (ht : TOk S ws t) : ∃ μ', m__law_near_right μ [.loc n, .d (cl ws (o :: os)), .d (.list (nI t)), .d (.int S)] = some (.d (.bool true), μ') ∧ DU μ n μ' := by
  obtain ⟨ρ', μ2, e4, hI⟩ := forM_run (t := tNm 4) (body := w2__law_near_right) (all := rngD 0 4)
    (fun _ ρ μ' => ∃ q4 q5 q6 q7 q8 q9 q10, ρ = [some (.loc n), some (.d (cl ws (o :: os))), some (.d (.list (nI t))), some (.d (.int S)), q4, q5, q6, q7, q8, q9, q10, none] ∧ DU μ n μ')
    (fun x ds ρ μ3 ⟨q4, q5, q6, q7, q8, q9, q10, er, u⟩ => by
      subst er
      obtain ⟨q5', q6', q7', q8', q9', q10', μ4, e, u4⟩ := near_step (u.dice d) s g ht (some (.d x)) q5 q6 q7 q8 q9 q10
      exact ⟨_, _, μ4, rfl, e, _, _, _, _, _, _, _, rfl, u.trans u4⟩)
    (rngD 0 4) [some (.loc n), some (.d (cl ws (o :: os))), some (.d (.list (nI t))), some (.d (.int S)), none, none, none, none, none, none, none, none] μ ⟨none, none, none, none, none, none, none, rfl, DU.refl d⟩
  obtain ⟨q4, q5, q6, q7, q8, q9, q10, er, u⟩ := hI
  subst er
  have len := u.len
  have tk : μ2.take μ.length = μ2 := List.take_of_length_le (by omega)
  have h4 : rgOk 0 4 := rgOk_of (by decide) (by decide) (by decide) (by decide)
  refine ⟨μ2, ?_, u⟩
  generalize cl ws (o :: os) = C at *
  generalize nI t = T at *
  simp [m__law_near_right, b__law_near_right, fnM, h4, e4, tk]
end MR
end
section
set_option Elab.async false
set_option linter.all false
set_option maxHeartbeats 1000000
set_option maxRecDepth 20000
set_option exponentiation.threshold 30000
namespace MR
open PySem PySem.Spec PyProof.Rows L2 VL MF
theorem L2_dvd {x S : Int} (s : 0 < S) : (L x S).2 ∣ S := by
  obtain ⟨k, p, q, _, _, e, _, _, h⟩ := L_ex x (show S ≠ 0 by omega)
  rw [h]
  exact ⟨k, by rw [e, Int.mul_comm]⟩
def rst (S B x : Int) : Int := (L x S).1 % (L x S).2 * (B / (L x S).2)
theorem rst_mul {S B x : Int} (s : 0 < S) (h : (L x S).2 ∣ B) : rst S B x * S = x % S * B := by
  have hq := (L_isF x (show S ≠ 0 by omega)).1
  have lv := L_val x (show S ≠ 0 by omega)
  unfold rst
  generalize (L x S).1 = p at *
  generalize (L x S).2 = q at *
  have e1 : p % q * S = q * (x % S) := by
    have a := Int.mul_emod_mul_of_pos p q s
    have b := Int.mul_emod_mul_of_pos x S hq
    rw [Int.mul_comm (p % q) S, ← a, ← b, Int.mul_comm S p, lv, Int.mul_comm S q, Int.mul_comm x q]
  have e2 : q * (B / q) = B := Int.mul_ediv_cancel' h
  calc p % q * (B / q) * S = (p % q * S) * (B / q) := by rw [Int.mul_right_comm]
    _ = q * (x % S) * (B / q) := by rw [e1]
    _ = x % S * (q * (B / q)) := by rw [Int.mul_comm q, Int.mul_assoc]
    _ = x % S * B := by rw [e2]
theorem L_div {S x : Int} (s : 0 < S) : (L x S).1 / (L x S).2 = x / S := by
  have hq := (L_isF x (show S ≠ 0 by omega)).1
  have lv := L_val x (show S ≠ 0 by omega)
  generalize (L x S).1 = p at *
  generalize (L x S).2 = q at *
  have a := Int.mul_ediv_mul_of_pos_left p q s
  have b := Int.mul_ediv_mul_of_pos_left x S hq
  rw [← a, lv, ← b, Int.mul_comm q S]
theorem log_small {n : Nat} (h : n < 2 ^ 61) : n.log2 < 61 := PySem.Flt.log2_lt_of (by decide) h
theorem dvd_le {a S : Int} (s : SOk S) (h : a ∣ S) : a.natAbs < 2 ^ 60 := by
  have sp := s.pos
  have sl := s.le
  have := Nat.le_of_dvd (by omega) (Int.natAbs_dvd_natAbs.mpr h)
  omega
theorem lcm_ok {S a b : Int} (s : SOk S) (ha : a ∣ S) (hb : b ∣ S) : lcmOk a b ∧ ((a.natAbs.lcm b.natAbs : Nat) : Int) ∣ S := by
  have h1 := dvd_le s ha
  have h2 := dvd_le s hb
  have h3 : ((a.natAbs.lcm b.natAbs : Nat) : Int) ∣ S := by
    have : a.natAbs.lcm b.natAbs ∣ S.natAbs := Nat.lcm_dvd (Int.natAbs_dvd_natAbs.mpr ha) (Int.natAbs_dvd_natAbs.mpr hb)
    rw [← Int.natAbs_dvd_natAbs]
    simpa using this
  have h4 := dvd_le s h3
  have e1 := log_small (n := a.natAbs) (by omega)
  have e2 := log_small (n := b.natAbs) (by omega)
  have e3 := log_small (n := a.natAbs.lcm b.natAbs) (by simp at h4; omega)
  refine ⟨⟨by omega, by omega, ?_⟩, h3⟩
  exact Nat.lt_trans e3 (by decide +kernel)
theorem cls_loop (μ : Mu) {S : Int} (s : SOk S) (a c d e f g : Option Vw) (all : List PyData) : ∀ (t : List Int) (B : Int) (q2 : Option Vw), 0 < B → B ∣ S →
    ∃ B' q2', VL.forM (tNm 2) w1_class_with none all (rw_ S t) [a, some (.d (.int B)), q2, c, d, e, f, g] μ = some (.nx [a, some (.d (.int B')), q2', c, d, e, f, g] μ) ∧ 0 < B' ∧ B' ∣ S ∧ B ∣ B' ∧ ∀ x ∈ t, (L x S).2 ∣ B'
  | [], B, q2, h0, h1 => ⟨B, q2, by simp [VL.forM, srcOk_none, rw_], h0, h1, Int.dvd_refl _, fun x hx => by cases hx⟩
  | x :: t, B, q2, h0, h1 => by
    have sp := s.pos
    have hd := L2_dvd (x := x) sp
    have hq := (L_isF x (show S ≠ 0 by omega)).1
    obtain ⟨k1, k2⟩ := lcm_ok s h1 hd
    have hpos : 0 < ((B.natAbs.lcm (L x S).2.natAbs : Nat) : Int) := by
      have := Nat.lcm_pos (m := B.natAbs) (n := (L x S).2.natAbs) (by omega) (by omega)
      omega
    obtain ⟨B', q2', e1, p1, p2, p3, p4⟩ := cls_loop μ s a c d e f g all t ((B.natAbs.lcm (L x S).2.natAbs : Nat) : Int) (some (.d (fr (L x S)))) hpos k2
    have d1 : B ∣ ((B.natAbs.lcm (L x S).2.natAbs : Nat) : Int) := by
      rw [← Int.natAbs_dvd_natAbs]; simpa using Nat.dvd_lcm_left _ _
    have d2 : (L x S).2 ∣ ((B.natAbs.lcm (L x S).2.natAbs : Nat) : Int) := by
      rw [← Int.natAbs_dvd_natAbs]; simpa using Nat.dvd_lcm_right _ _
    refine ⟨B', q2', ?_, p1, p2, Int.dvd_trans d1 p3, fun y hy => ?_⟩
    · rw [← e1]
      show VL.forM _ _ _ _ (fr (L x S) :: rw_ S t) _ _ = _
      simp only [fr]
      simp [VL.forM, srcOk_none, w1_class_with, at1, k1]
    · rcases List.mem_cons.mp hy with rfl | hy
      · exact Int.dvd_trans d2 p3
      · exact p4 y hy
def clsO (v : List Int) : List (List Int) := (0 :: (usrt v).filter fun x => decide (0 < x)).map fun x => (upto v.length).filter fun c => decide (gd v c.toNat = x)
theorem lc_rst (μ : Mu) {S B : Int} (s : SOk S) (hB : 0 < B) (hd : B ∣ S) {t : List Int} (h : ∀ x ∈ t, Nm S x) (hx : ∀ x ∈ t, (L x S).2 ∣ B) (a c d e f g : Option Vw) :
    VL.lcM (tNm 2) bYes q2_class_with none (rw_ S t) (rw_ S t) (wipeR [a, some (.d (.int B)), c, d, e, f, g, none] [2]) μ = some (nI (t.map (rst S B)), μ) := by
  have sp := s.pos
  have hb := dvd_le s hd
  show VL.lcM _ _ _ _ _ (t.map fun x => fr (L x S)) _ _ = _
  rw [lc_nI (fun x => fr (L x S)) (rst S B) t (fun x hxt => by
    have b := bdS s (h x hxt)
    have bp := b.pos
    have k1 : ∀ i, divOk i (L x S).2 = true := fun i => divOk_of (b := 70) (by omega) b.bot (by omega)
    have e1 : (L x S).1.fmod (L x S).2 = (L x S).1 % (L x S).2 := Int.fmod_eq_emod_of_nonneg _ (by omega)
    have e2 : B.fdiv (L x S).2 = B / (L x S).2 := Int.fdiv_eq_ediv_of_nonneg _ (by omega)
    have h1 := Int.emod_nonneg (L x S).1 (show (L x S).2 ≠ 0 by omega)
    have h2 := Int.emod_lt_of_pos (L x S).1 bp
    have h3 : 0 ≤ B / (L x S).2 := Int.ediv_nonneg (by omega) (by omega)
    have h4 : B / (L x S).2 ≤ B := Int.ediv_le_self _ (by omega)
    have bb := b.bot
    have m1 : mulOk ((L x S).1 % (L x S).2) (B / (L x S).2) = true := mulOk_w (a := 70) (b := 60) (by omega) (by omega) (by omega)
    refine ⟨_, rfl, ?_⟩
    simp only [fr]
    have b0 : ¬ (L x S).2 = 0 := by omega
    simp [q2_class_with, wipeR, at0, at1, k1, b0, e1, e2, m1, rst])]
theorem lc_pos (μ : Mu) (l : List Int) (a b c d e f : Option Vw) : VL.lcM (tNm 6) r3_class_with q4_class_with none (nI l) (nI l) (wipeR [a, b, c, d, e, f, none, none] [6]) μ = some (nI (l.filter fun x => decide (0 < x)), μ) := by
  show VL.lcM _ _ _ _ _ (l.map PyData.int) _ _ = _
  rw [lcE PyData.int (fun x => decide (0 < x)) PyData.int l (fun x hx => by
    refine ⟨_, rfl, ?_, fun _ => by simp [q4_class_with, wipeR]⟩
    simp [r3_class_with, wipeR])]
  rfl
theorem lc_lots (μ : Mu) (v l : List Int) (hv : v.length ≤ 1000) (a b c e f : Option Vw) : VL.lcM (tNm 6) bYes q7_class_with none (nI l) (nI l) (wipeR [a, b, c, some (.d (.list (nI v))), e, f, none, none] [6]) μ = some ((l.map fun x => (upto v.length).filter fun c => decide (gd v c.toNat = x)).map tI, μ) := by
  show VL.lcM _ _ _ _ _ (l.map PyData.int) _ _ = _
  rw [lcE0 PyData.int (fun x => tI ((upto v.length).filter fun c => decide (gd v c.toNat = x))) l (fun x hx => by
    have hr := rg_of hv
    have e1 := lcE (t := tNm 7) (tt := r5_class_with) (fe := q6_class_with) (all := rngD 0 v.length) (ρ := wipeR [a, b, c, some (.d (.list (nI v))), e, f, some (.d (.int x)), none] [7]) (μ := μ) PyData.int (fun c => decide (gd v c.toNat = x)) PyData.int (upto v.length) (fun c hc => by
      obtain ⟨i, hi, rfl⟩ := List.mem_map.mp hc
      have ha := atI_nI (ws := v) (i := i) (by simpa using hi)
      refine ⟨_, rfl, ?_, fun _ => by simp [q6_class_with, wipeR]⟩
      simp [r5_class_with, wipeR, ha, PyData.plain, PyData.depth, PyData.eqv]
      rfl)
    rw [kE, kE, ← rngD_nI] at e1
    have ll : (nI ((upto v.length).filter fun c => decide (gd v c.toNat = x))).length ≤ 1000000 := by
      rw [nI_len]
      have := List.length_filter_le (fun c : Int => decide (gd v c.toNat = x)) (upto v.length)
      rw [upto_len] at this
      omega
    refine ⟨_, rfl, ?_⟩
    unfold tI
    generalize nI ((upto v.length).filter fun c => decide (gd v c.toNat = x)) = N at *
    simp only [wipeR] at e1 ⊢
    simp at e1 ⊢
    simp [q7_class_with, nI_len, hr, wipeR, e1, ll])]
  rw [List.map_map]; rfl
theorem lc_whole (μ : Mu) {S : Int} (s : SOk S) {t : List Int} (h : ∀ x ∈ t, Nm S x) (a c d e f g k : Option Vw) :
    VL.lcM (tNm 2) bYes q8_class_with none (rw_ S t) (rw_ S t) (wipeR [a, c, d, e, f, g, k, none] [2]) μ = some (nI (t.map fun x => x / S), μ) := by
  have sp := s.pos
  show VL.lcM _ _ _ _ _ (t.map fun x => fr (L x S)) _ _ = _
  rw [lc_nI (fun x => fr (L x S)) (fun x => x / S) t (fun x hxt => by
    have b := bdS s (h x hxt)
    have bp := b.pos
    have k1 : ∀ i, divOk i (L x S).2 = true := fun i => divOk_of (b := 70) (by omega) b.bot (by omega)
    have e2 : (L x S).1.fdiv (L x S).2 = x / S := by rw [Int.fdiv_eq_ediv_of_nonneg _ (by omega), L_div sp]
    refine ⟨_, rfl, ?_⟩
    simp only [fr]
    simp [q8_class_with, wipeR, m_whole_of, b_whole_of, fnM, at0, at1, k1, e2])]
theorem clsO_ne (v : List Int) : clsO v ≠ [] := by simp [clsO]
theorem v_class_with (μ : Mu) {S : Int} (s : SOk S) {t : List Int} (h : ∀ x ∈ t, Nm S x) (hl : t.length ≤ 50) : ∃ B, 0 < B ∧ B ∣ S ∧ (∀ x ∈ t, (L x S).2 ∣ B) ∧ m_class_with μ [.d (.tuple (rw_ S t))] = some (.d (cl (t.map fun x => x / S) (clsO (t.map (rst S B)))), μ) := by
  obtain ⟨B, q2, e1, b0, b1, _, b3⟩ := cls_loop μ s (some (.d (.tuple (rw_ S t)))) none none none none none (rw_ S t) t 1 none (by decide) ⟨S, by omega⟩
  refine ⟨B, b0, b1, b3, ?_⟩
  have e2 := fun a c d e f g => lc_rst μ s b0 b1 h b3 a c d e f g
  have hvl : (t.map (rst S B)).length = t.length := by simp
  generalize hv : t.map (rst S B) = v at *
  have e3 := fun a b c d e f => lc_pos μ (usrt v) a b c d e f
  have e4 := fun l a b c e f => lc_lots μ v l (by omega) a b c e f
  have e5 := fun a c d e f g k => lc_whole μ s h a c d e f g k
  have hti := toI_nI v
  have l1 : (nI v).length ≤ 1000000 := by rw [nI_len]; omega
  have lu : (usrt v).length ≤ v.length := by
    clear e2 e3 e4 hv hvl hti l1
    induction v with
    | nil => simp [usrt]
    | cons x v ih =>
      show (inU x (usrt v)).length ≤ _
      have : ∀ l : List Int, (inU x l).length ≤ l.length + 1 := fun l => by
        induction l with
        | nil => simp [inU]
        | cons y l ih => unfold inU; split <;> (try split) <;> simp <;> omega
      have := this (usrt v)
      simp; omega
  have lf : ((usrt v).filter fun x => decide (0 < x)).length ≤ v.length := Nat.le_trans (List.length_filter_le _ _) lu
  have l2 : (nI ((usrt v).filter fun x => decide (0 < x))).length ≤ 100 := by rw [nI_len]; omega
  have ea : [PyData.int 0] ++ nI ((usrt v).filter fun x => decide (0 < x)) = nI (0 :: (usrt v).filter fun x => decide (0 < x)) := rfl
  have ea' : PyData.int 0 :: nI ((usrt v).filter fun x => decide (0 < x)) = nI (0 :: (usrt v).filter fun x => decide (0 < x)) := rfl
  have hsub : (usrt v).map PyData.int = nI (usrt v) := rfl
  have l3 : ((clsO v).map tI).length ≤ 1000000 := by simp [clsO]; omega
  have l4 : (nI (t.map fun x => x / S)).length ≤ 1000000 := by rw [nI_len]; simp; omega
  have e4' := fun a b c e f => e4 (0 :: (usrt v).filter fun x => decide (0 < x)) a b c e f
  change ∀ a b c e f, _ = some ((clsO v).map tI, μ) at e4'
  simp only [cl, tL] at *
  generalize hO : (clsO v).map tI = O at *
  simp only [tI] at *
  generalize hN : nI (0 :: (usrt v).filter fun x => decide (0 < x)) = N at *
  generalize hM : nI ((usrt v).filter fun x => decide (0 < x)) = M at *
  generalize hW : nI (t.map fun x => x / S) = W at *
  generalize hU : nI (usrt v) = U at *
  generalize hR : rw_ S t = R at *
  generalize hV : nI v = V at *
  have m1 : 1 + M.length ≤ 1000000 := by omega
  have m2 : M.length + 1 ≤ 1000000 := by omega
  have m3 : M.length ≤ 999999 := by omega
  have m4 : M.length ≤ 1000000 := by omega
  have m5 : v.length ≤ 60 := by omega
  simp [m_class_with, b_class_with, fnM, e1, e2, l1, hti, m5, hsub, e3, m1, m2, m3, m4, ea', e4', l3, e5, l4]
theorem v_class_of (μ : Mu) {S : Int} (s : SOk S) {ws t : List Int} (ht : TOk S ws t) (hn : ws.length ∈ [1, 2, 3]) : ∃ B, 0 < B ∧ B ∣ S ∧ (∀ x ∈ t, (L x S).2 ∣ B) ∧ m_class_of μ [.d (.tuple (rw_ S t))] = some (.d (cl (t.map fun x => x / S) (clsO (t.map (rst S B)))), μ) := by
  have sp := s.pos
  have hlen := ht.len
  simp at hn
  have hnm : ∀ x ∈ t, Nm S x := fun x hx => ⟨(ht.b x hx).1, by have := (ht.b x hx).2; omega⟩
  obtain ⟨B, b0, b1, b2, e⟩ := v_class_with μ s hnm (by omega)
  refine ⟨B, b0, b1, b2, ?_⟩
  have r2 := v_check_readings μ s (t := t) (n := t.length) rfl (by omega) hnm
  have r4 := v_check_low μ s (t := t) (by omega) hnm (fun x hx => (ht.b x hx).2)
  have hl := rw_len S t
  generalize rw_ S t = R at *
  have c1 : (1 : Int) ≤ t.length := by omega
  have c2 : (t.length : Int) ≤ 3 := by omega
  have c3 : 0 < t.length := by omega
  have c4 : t.length ≤ 3 := by omega
  have r1 : m_is_some_row μ [.d (.tuple R)] = some (.d (.bool true), μ) := by
    simp [m_is_some_row, b_is_some_row, fnM, isaB, hl, c1, c2, c3, c4]
    try omega
  have r3 : m_check_some_readings μ [.d (.tuple R)] = some (.d .none, μ) := by
    simp [m_check_some_readings, b_check_some_readings, fnM, r1, hl, r2]
  simp [m_class_of, b_class_of, fnM, r3, r4, e]
end MR
end
section
set_option Elab.async false
set_option linter.all false
set_option maxHeartbeats 1000000
set_option maxRecDepth 20000
set_option exponentiation.threshold 30000
namespace MR
open PySem PySem.Spec PyProof.Rows L2 VL MF
def pats : Nat → List (List Int)
  | 0 => [[]]
  | k + 1 => (pats k).flatMap fun l => [0 :: l, 1 :: l]
def patOf (b : List Int) : List Int := b.map fun x => if 0 < x then 1 else 0
theorem pat_mem : ∀ b : List Int, patOf b ∈ pats b.length
  | [] => by simp [patOf, pats]
  | x :: b => by
    have := pat_mem b
    simp only [patOf, List.map_cons, List.length_cons, pats, List.mem_flatMap] at *
    refine ⟨_, this, ?_⟩
    split <;> simp
def clsB (n : Nat) (s : List (List Int)) (p : List Int) : Bool :=
  let T := ptP (zs n) s.tail p
  let wh := T.map fun x => x / p.sum
  let O := clsO (T.map fun x => x % p.sum)
  decide (O ∈ sh n) && ((List.range n).all fun i => decide (gd wh i = 0) || (decide (gd wh i = 1) && decide ((i : Int) ∈ s.tail.flatten))) &&
    (O.tail.all fun x => x.all fun c => decide (gd wh c.toNat = 0) && decide (c ∈ s.tail.flatten)) &&
    decide (cornersP wh O.tail = (((cornersP (zs n) s.tail).zip p).filter fun q => decide (0 < q.2)).map (·.1)) &&
    (decide (wh = zs n ∧ O = s) == !decide (0 ∈ p))
theorem cls_facts : ([1, 2, 3].all fun n => (sh n).all fun s => (pats s.length).all fun p => decide (p.sum = 0) || clsB n s p) = true := by decide +kernel
theorem up_facts : ∀ n ∈ [1, 2, 3], ∀ s ∈ sh n, ∀ i ∈ List.range n, ∃ j ∈ List.range (s.length + 1), (cornersP (zs n) s.tail).map (fun C => gd C i) = List.replicate j 0 ++ List.replicate (s.length - j) 1 := by decide +kernel
theorem sm_zipmap {α : Type} (F : α → Int) : ∀ (b : List Int) (cs : List α), sm (b.zip cs) F = ((b.zip (cs.map F)).map fun p => p.1 * p.2).sum
  | [], cs => by simp [sm]
  | x :: b, [] => by simp [sm]
  | x :: b, c :: cs => by
    rw [List.zip_cons_cons, sm_cons, sm_zipmap F b cs]; simp
theorem zip_one : ∀ (b : List Int) (m : Nat), b.length = m → ((b.zip (List.replicate m (1 : Int))).map fun p => p.1 * p.2).sum = b.sum
  | [], m, _ => by simp
  | x :: b, m, h => by
    cases m with
    | zero => cases h
    | succ m =>
      have := zip_one b m (by simpa using h)
      rw [List.replicate_succ, List.zip_cons_cons, List.map_cons, List.sum_cons, this]; simp
theorem zip_up : ∀ (j m : Nat) (b : List Int), b.length = j + m → ((b.zip (List.replicate j (0 : Int) ++ List.replicate m 1)).map fun p => p.1 * p.2).sum = (b.drop j).sum
  | 0, m, b, h => by simpa using zip_one b m (by omega)
  | j + 1, m, [], h => by simp at h; omega
  | j + 1, m, x :: b, h => by
    have := zip_up j m b (by simp at h; omega)
    rw [List.replicate_succ, List.cons_append, List.zip_cons_cons, List.map_cons, List.sum_cons, this]; simp
/-- the sum of the last k weights above 0 -/
def psi (b : List Int) (k : Int) : Int := ((b.reverse.filter fun x => decide (0 < x)).take k.toNat).sum
theorem sum_pos : ∀ d : List Int, (∀ x ∈ d, 0 ≤ x) → (d.filter fun x => decide (0 < x)).sum = d.sum
  | [], _ => rfl
  | x :: d, h => by
    have ih := sum_pos d fun y hy => h y (List.mem_cons_of_mem _ hy)
    have hx := h x (by simp)
    by_cases c : 0 < x
    · simp [c, ih]
    · have : x = 0 := by omega
      simp [this, ih]
theorem pat_sum : ∀ d : List Int, (patOf d).sum = ((d.filter fun x => decide (0 < x)).length : Nat)
  | [] => rfl
  | x :: d => by
    have ih := pat_sum d
    by_cases c : 0 < x
    · simp [patOf, c] at *; omega
    · simp [patOf, c] at *; omega
theorem psi_drop (b : List Int) (h : ∀ x ∈ b, 0 ≤ x) (j : Nat) : (b.drop j).sum = psi b ((patOf b).drop j).sum := by
  have e1 : (patOf b).drop j = patOf (b.drop j) := by simp [patOf, List.map_drop]
  have e2 : b.reverse = (b.drop j).reverse ++ (b.take j).reverse := by rw [← List.reverse_append, List.take_append_drop]
  unfold psi
  rw [e1, pat_sum, e2, List.filter_append, Int.toNat_natCast]
  have e3 : ((b.drop j).reverse.filter fun x => decide (0 < x)).length = ((b.drop j).filter fun x => decide (0 < x)).length := by rw [List.filter_reverse, List.length_reverse]
  rw [← e3, List.take_left, sum_pos _ (fun x hx => h x (List.mem_of_mem_drop (List.mem_reverse.mp hx))), List.sum_reverse]
theorem take_lt : ∀ (l : List Int), (∀ x ∈ l, 0 < x) → ∀ i j : Nat, i < j → j ≤ l.length → (l.take i).sum < (l.take j).sum
  | [], _, i, j, h1, h2 => by simp at h2; omega
  | x :: l, h, 0, j + 1, _, h2 => by
    have hx := h x (by simp)
    have : 0 ≤ (l.take j).sum := nnS _ fun y hy => by have := h y (List.mem_cons_of_mem _ (List.mem_of_mem_take hy)); omega
    simp; omega
  | x :: l, h, i + 1, j + 1, h1, h2 => by
    have := take_lt l (fun y hy => h y (List.mem_cons_of_mem _ hy)) i j (by omega) (by simpa using h2)
    simp; omega
theorem psi_lt {b : List Int} {a c : Int} (h0 : 0 ≤ a) (h1 : a < c) (h2 : c ≤ (patOf b).sum) : psi b a < psi b c := by
  unfold psi
  refine take_lt _ (fun x hx => by simpa using (List.mem_filter.mp hx).2) _ _ (by omega) ?_
  rw [pat_sum] at h2
  rw [List.filter_reverse, List.length_reverse]
  omega
theorem psi_zero (b : List Int) : psi b 0 = 0 := by simp [psi]
theorem usrt_map {φ : Int → Int} {v : List Int} (hm : ∀ a ∈ v, ∀ c ∈ v, a < c → φ a < φ c) : usrt (v.map φ) = (usrt v).map φ := by
  refine (usrt_eq (fun k => ?_) ?_).symm
  · simp only [List.mem_map]
    exact ⟨fun ⟨a, h, e⟩ => ⟨a, (usrt_mem a v).mp h, e⟩, fun ⟨a, h, e⟩ => ⟨a, (usrt_mem a v).mpr h, e⟩⟩
  · refine List.pairwise_map.mpr ((usrt_srt v).imp_of_mem fun ha hc h => hm _ ((usrt_mem _ v).mp ha) _ ((usrt_mem _ v).mp hc) h)
theorem clsO_map {φ : Int → Int} {v : List Int} (h0 : φ 0 = 0) (hn : ∀ a ∈ v, 0 ≤ a) (hm : ∀ a ∈ 0 :: v, ∀ c ∈ 0 :: v, a < c → φ a < φ c) : clsO (v.map φ) = clsO v := by
  have hmv : ∀ a ∈ v, ∀ c ∈ v, a < c → φ a < φ c := fun a ha c hc => hm a (List.mem_cons_of_mem _ ha) c (List.mem_cons_of_mem _ hc)
  have hinj : ∀ a ∈ 0 :: v, ∀ c ∈ 0 :: v, (φ a = φ c ↔ a = c) := fun a ha c hc => ⟨fun e => by
    rcases Int.lt_trichotomy a c with h | h | h
    · have := hm a ha c hc h; omega
    · exact h
    · have := hm c hc a ha h; omega, fun e => by rw [e]⟩
  unfold clsO
  rw [usrt_map hmv, List.filter_map]
  have ef : ((usrt v).filter ((fun x => decide (0 < x)) ∘ φ)) = (usrt v).filter fun x => decide (0 < x) := by
    refine List.filter_congr fun a ha => ?_
    have hav := (usrt_mem a v).mp ha
    have h1 := hn a hav
    show decide (0 < φ a) = decide (0 < a)
    by_cases c : 0 < a
    · have := hm 0 (by simp) a (List.mem_cons_of_mem _ hav) c
      rw [decide_eq_true c, decide_eq_true (by omega)]
    · have : a = 0 := by omega
      rw [this, h0]
  rw [ef]
  have e0 : 0 :: ((usrt v).filter fun x => decide (0 < x)).map φ = (0 :: (usrt v).filter fun x => decide (0 < x)).map φ := by rw [List.map_cons, h0]
  rw [e0, List.map_map, List.length_map]
  refine List.map_congr_left fun x hx => ?_
  refine List.filter_congr fun c hc => ?_
  obtain ⟨i, hi, rfl⟩ := List.mem_map.mp hc
  have hi : i < v.length := by simpa using hi
  have hxm : x ∈ 0 :: v := by
    rcases List.mem_cons.mp hx with rfl | hx
    · simp
    · exact List.mem_cons_of_mem _ ((usrt_mem _ v).mp (List.mem_filter.mp hx).1)
  have hg : gd (v.map φ) (i : Int).toNat = φ (gd v (i : Int).toNat) := by simp [gd, List.getD_eq_getElem?_getD, hi]
  have hgm : gd v (i : Int).toNat ∈ 0 :: v := List.mem_cons_of_mem _ (gd_mem (by simpa using hi))
  show decide (gd (v.map φ) (i : Int).toNat = φ x) = decide (gd v (i : Int).toNat = x)
  rw [hg]
  have := hinj _ hgm _ hxm
  by_cases q : gd v (i : Int).toNat = x
  · rw [decide_eq_true q, decide_eq_true (this.mpr q)]
  · rw [decide_eq_false q, decide_eq_false fun z => q (this.mp z)]
end MR
end
section
set_option Elab.async false
set_option linter.all false
set_option maxHeartbeats 1000000
set_option maxRecDepth 20000
set_option exponentiation.threshold 30000
namespace MR
open PySem PySem.Spec PyProof.Rows L2 VL MF
structure ClsF (n : Nat) (s : List (List Int)) (p : List Int) (wh : List Int) (O : List (List Int)) : Prop where
  hs : O ∈ sh n
  w01 : ∀ i, i < n → gd wh i = 0 ∨ (gd wh i = 1 ∧ (i : Int) ∈ s.tail.flatten)
  low : ∀ x ∈ O.tail, ∀ c ∈ x, gd wh c.toNat = 0 ∧ c ∈ s.tail.flatten
  cor : cornersP wh O.tail = (((cornersP (zs n) s.tail).zip p).filter fun q => decide (0 < q.2)).map (·.1)
  eq : decide (wh = zs n ∧ O = s) = !decide (0 ∈ p)
theorem cls_f {n : Nat} {s : List (List Int)} (hn : n ∈ [1, 2, 3]) (hs : s ∈ sh n) {p : List Int} (hp : p ∈ pats s.length) (h0 : p.sum ≠ 0) : ClsF n s p ((ptP (zs n) s.tail p).map fun x => x / p.sum) (clsO ((ptP (zs n) s.tail p).map fun x => x % p.sum)) := by
  have f := cls_facts
  rw [List.all_eq_true] at f
  have f := f n hn
  rw [List.all_eq_true] at f
  have f := f s hs
  rw [List.all_eq_true] at f
  have f := f p hp
  rw [decide_eq_false h0, Bool.false_or] at f
  unfold clsB at f
  simp only [Bool.and_eq_true, decide_eq_true_eq, List.all_eq_true, Bool.or_eq_true, beq_iff_eq] at f
  obtain ⟨⟨⟨⟨f1, f2⟩, f3⟩, f4⟩, f5⟩ := f
  exact ⟨f1, fun i hi => f2 i (by simpa using hi), fun x hx c hc => f3 x hx c hc, f4, f5⟩
theorem ptP_ad {ws : List Int} {os : List (List Int)} {b : List Int} {S : Int} (hl : b.length = (cornersP ws os).length) (hs : b.sum = S) {i : Nat} (hi : i < ws.length) : gd (ptP ws os b) i = gd ws i * S + gd (ptP (zs ws.length) os b) i := by
  have e : cornersP ws os = (cornersP (zs ws.length) os).map (ad ws) := by
    rw [← cornersP_ad (by rw [zs_len]), ad_zs]
  have hl' : b.length = (cornersP (zs ws.length) os).length := by rw [hl, e, List.length_map]
  rw [gd_ptP hi, gd_ptP (by rw [zs_len]; exact hi), e, zip_map_snd, sm_map (ad ws) (fun C => gd C i)]
  have e2 : sm (b.zip (cornersP (zs ws.length) os)) (fun x => gd (ad ws x) i) = sm (b.zip (cornersP (zs ws.length) os)) fun x => gd ws i + gd x i := sm_congr fun p hp => by
    have hm := (List.of_mem_zip hp).2
    rw [gd_ad (by rw [cornersP_len hm, zs_len]) hi]
  rw [e2, sm_add, sm_const, zip_fst hl', hs, Int.mul_comm]
section
variable {ws o : List Int} {os : List (List Int)} {S : Int} {b : List Int}
theorem pt_psi (g : G ws (o :: os)) (hb : b.length = (o :: os).length) (hn : ∀ x ∈ b, 0 ≤ x) {i : Nat} (hi : i < ws.length) : ∃ k : Int, 0 ≤ k ∧ k ≤ (patOf b).sum ∧ gd (ptP (zs ws.length) os b) i = psi b k ∧ gd (ptP (zs ws.length) os (patOf b)) i = k := by
  obtain ⟨j, hj, e⟩ := up_facts _ g.hn _ g.hs i (by simpa using hi)
  simp only [List.tail_cons] at e
  have hj : j ≤ (o :: os).length := by have := List.mem_range.mp hj; omega
  have hpl : (patOf b).length = b.length := by simp [patOf]
  have key : ∀ c : List Int, c.length = (o :: os).length → gd (ptP (zs ws.length) os c) i = (c.drop j).sum := fun c hc => by
    rw [gd_ptP (by rw [zs_len]; exact hi), sm_zipmap, e, zip_up j _ c (by omega)]
  have hpn : ∀ x ∈ patOf b, 0 ≤ x := fun x hx => by
    obtain ⟨y, _, rfl⟩ := List.mem_map.mp hx
    split <;> omega
  refine ⟨((patOf b).drop j).sum, nnS _ fun x hx => hpn x (List.mem_of_mem_drop hx), ?_, ?_, key _ (by omega)⟩
  · have h1 := nnS ((patOf b).take j) fun x hx => hpn x (List.mem_of_mem_take hx)
    have h2 : (patOf b).sum = ((patOf b).take j).sum + ((patOf b).drop j).sum := by rw [← List.sum_append, List.take_append_drop]
    omega
  · rw [key b hb, psi_drop b hn j]
theorem pat_pos (w : Wt S b (o :: os).length) : (patOf b).sum ≠ 0 := fun z => by
  have h := psi_drop b w.nn 0
  rw [List.drop_zero, List.drop_zero, z, psi_zero, w.sum] at h
  have := w.s.pos
  omega
theorem psi_full (w : Wt S b (o :: os).length) : psi b (patOf b).sum = S := by
  have h := psi_drop b w.nn 0
  rw [List.drop_zero, List.drop_zero, w.sum] at h
  exact h.symm
theorem cls_pt (g : G ws (o :: os)) (w : Wt S b (o :: os).length) {B : Int} (hB : 0 < B) (hd : ∀ x ∈ ptP ws os b, (L x S).2 ∣ B) :
    (ptP ws os b).map (fun x => x / S) = ad ws ((ptP (zs ws.length) os (patOf b)).map fun x => x / (patOf b).sum) ∧
    clsO ((ptP ws os b).map (rst S B)) = clsO ((ptP (zs ws.length) os (patOf b)).map fun x => x % (patOf b).sum) := by
  have sp := w.s.pos
  have hcn : (cornersP ws os).length = (o :: os).length := by rw [cornersP_n]; simp
  have hp0 := pat_pos w
  have hpf := psi_full w
  have key : ∀ i, i < ws.length → ∃ k : Int, 0 ≤ k ∧ k ≤ (patOf b).sum ∧ gd (ptP ws os b) i = gd ws i * S + psi b k ∧ gd (ptP (zs ws.length) os (patOf b)) i = k ∧ psi b k % S = psi b (k % (patOf b).sum) ∧ psi b k / S = k / (patOf b).sum := fun i hi => by
    obtain ⟨k, k0, k1, e1, e2⟩ := pt_psi g w.len w.nn hi
    refine ⟨k, k0, k1, by rw [ptP_ad (by rw [w.len, hcn]) w.sum hi, e1], e2, ?_⟩
    by_cases c : k = (patOf b).sum
    · rw [c, hpf, Int.emod_self, Int.emod_self, psi_zero, Int.ediv_self (by omega), Int.ediv_self hp0]
      exact ⟨rfl, rfl⟩
    · have h1 := psi_lt (b := b) k0 (show k < (patOf b).sum by omega) (by omega)
      rw [hpf] at h1
      have h2 : 0 ≤ psi b k := by
        by_cases z : k = 0
        · rw [z, psi_zero]; omega
        · have := psi_lt (b := b) (a := 0) (c := k) (by omega) (by omega) k1
          rw [psi_zero] at this; omega
      rw [Int.emod_eq_of_lt h2 h1, Int.emod_eq_of_lt k0 (by omega), Int.ediv_eq_zero_of_lt h2 h1, Int.ediv_eq_zero_of_lt k0 (by omega)]
      exact ⟨rfl, rfl⟩
  have hlz : (ptP (zs ws.length) os (patOf b)).length = ws.length := by rw [ptP_len, zs_len]
  constructor
  · apply gd_ext
    · rw [List.length_map, ptP_len, ad_len (by rw [List.length_map, hlz])]
    · intro i hi
      rw [List.length_map, ptP_len] at hi
      obtain ⟨k, k0, k1, e1, e2, e3, e4⟩ := key i hi
      rw [gd_ad (by rw [List.length_map, hlz]) hi]
      have g1 : gd ((ptP ws os b).map fun x => x / S) i = gd (ptP ws os b) i / S := by simp [gd, List.getD_eq_getElem?_getD, ptP_len, hi]
      have g2 : gd ((ptP (zs ws.length) os (patOf b)).map fun x => x / (patOf b).sum) i = gd (ptP (zs ws.length) os (patOf b)) i / (patOf b).sum := by simp [gd, List.getD_eq_getElem?_getD, hlz, hi]
      rw [g1, g2, e1, e2, ← e4, Int.add_comm, Int.add_mul_ediv_right _ _ (by omega), Int.add_comm]
  · have hr : ∀ i, i < ws.length → rst S B (gd (ptP ws os b) i) * S = psi b (gd (ptP (zs ws.length) os (patOf b)) i % (patOf b).sum) * B := fun i hi => by
      obtain ⟨k, k0, k1, e1, e2, e3, e4⟩ := key i hi
      rw [rst_mul sp (hd _ (gd_mem (by rw [ptP_len]; exact hi))), e2, ← e3, e1, Int.add_comm, Int.add_mul_emod_self_right]
    have hphi : ∀ i, i < ws.length → psi b (gd (ptP (zs ws.length) os (patOf b)) i % (patOf b).sum) * B / S = rst S B (gd (ptP ws os b) i) := fun i hi => by
      rw [← hr i hi, Int.mul_ediv_cancel _ (by omega)]
    have e : (ptP ws os b).map (rst S B) = ((ptP (zs ws.length) os (patOf b)).map fun x => x % (patOf b).sum).map fun k => psi b k * B / S := by
      apply gd_ext
      · simp [ptP_len, hlz]
      · intro i hi
        rw [List.length_map, ptP_len] at hi
        have g1 : gd ((ptP ws os b).map (rst S B)) i = rst S B (gd (ptP ws os b) i) := by simp [gd, List.getD_eq_getElem?_getD, ptP_len, hi]
        have g2 : gd (((ptP (zs ws.length) os (patOf b)).map fun x => x % (patOf b).sum).map fun k => psi b k * B / S) i = psi b (gd (ptP (zs ws.length) os (patOf b)) i % (patOf b).sum) * B / S := by simp [gd, List.getD_eq_getElem?_getD, hlz, hi]
        rw [g1, g2, hphi i hi]
    have hpn : 0 < (patOf b).sum := by
      have : 0 ≤ (patOf b).sum := nnS _ fun x hx => by
        obtain ⟨y, _, rfl⟩ := List.mem_map.mp hx
        split <;> omega
      omega
    have hmem : ∀ a ∈ (ptP (zs ws.length) os (patOf b)).map (fun x => x % (patOf b).sum), (0 ≤ a ∧ a < (patOf b).sum) ∧ psi b a * B / S * S = psi b a * B := fun a ha => by
      obtain ⟨x, hx, rfl⟩ := List.mem_map.mp ha
      obtain ⟨i, hi, rfl⟩ := mem_gd hx
      rw [hlz] at hi
      refine ⟨⟨Int.emod_nonneg _ hp0, Int.emod_lt_of_pos _ hpn⟩, ?_⟩
      rw [hphi i hi, hr i hi]
    rw [e]
    refine clsO_map (by rw [psi_zero]; simp) (fun a ha => (hmem a ha).1.1) (fun a ha c hc h => ?_)
    have h0 : psi b 0 * B / S * S = psi b 0 * B := by rw [psi_zero]; simp
    have ha' : (0 ≤ a ∧ a < (patOf b).sum) ∧ psi b a * B / S * S = psi b a * B := by
      rcases List.mem_cons.mp ha with rfl | ha
      · exact ⟨⟨by omega, hpn⟩, h0⟩
      · exact hmem a ha
    have hc' : (0 ≤ c ∧ c < (patOf b).sum) ∧ psi b c * B / S * S = psi b c * B := by
      rcases List.mem_cons.mp hc with rfl | hc
      · exact ⟨⟨by omega, hpn⟩, h0⟩
      · exact hmem c hc
    have hlt := psi_lt (b := b) ha'.1.1 h (by omega)
    have h1 : psi b a * B < psi b c * B := Int.mul_lt_mul_of_pos_right hlt hB
    rw [← ha'.2, ← hc'.2] at h1
    exact Int.lt_of_mul_lt_mul_right h1 (by omega)
end
end MR
end
section
set_option Elab.async false
set_option linter.all false
set_option maxHeartbeats 1000000
set_option maxRecDepth 20000
set_option exponentiation.threshold 30000
namespace MR
open PySem PySem.Spec PyProof.Rows L2 VL MF
theorem depthA_tL : ∀ os : List (List Int), PyData.depthAll (os.map tI) ≤ 1
  | [] => by simp [PyData.depthAll]
  | o :: os => by
    have := depthA_tL os
    simp [PyData.depthAll, depth_tI]
    omega
theorem plain_cl (ws : List Int) (s : List (List Int)) : (cl ws s).plain = true := by simp [cl, tL, PyData.plain, PyData.plainAll, plain_tI, plainA_tL]
theorem depth_cl (ws : List Int) (s : List (List Int)) : (cl ws s).depth ≤ 100 := by
  have := depthA_tL s
  simp [cl, tL, PyData.depth, PyData.depthAll, depth_tI]
  omega
theorem eqvA_tL : ∀ a b : List (List Int), PyData.eqvAll (a.map tI) (b.map tI) = decide (a = b)
  | [], [] => by simp [PyData.eqvAll]
  | [], y :: b => by simp [PyData.eqvAll]
  | x :: a, [] => by simp [PyData.eqvAll]
  | x :: a, y :: b => by
    have := eqvA_tL a b
    rw [List.map_cons, List.map_cons]
    simp only [PyData.eqvAll, eqv_tI, this]
    rw [Bool.eq_iff_iff]; simp
theorem eqv_cl (a b : List Int) (s r : List (List Int)) : PyData.eqv (cl a s) (cl b r) = decide (a = b ∧ s = r) := by
  have h1 := eqv_tI a b
  have h2 := eqvA_tL s r
  simp only [cl, tL, PyData.eqv, PyData.eqvAll, h1, h2]
  rw [Bool.eq_iff_iff]; simp
theorem oEq_cl (neg : Bool) (μ : Mu) (a b : List Int) (s r : List (List Int)) : oEq neg μ (.d (cl a s)) (.d (cl b r)) = some (.d (.bool (if neg then !decide (a = b ∧ s = r) else decide (a = b ∧ s = r)))) := by
  rw [oEq_of (plain_cl a s) (plain_cl b r) (depth_cl b r), eqv_cl]
theorem plain_tl (s : List (List Int)) : (PyData.tuple (s.map tI)).plain = true := by simp [PyData.plain, plainA_tL]
theorem depth_tl (s : List (List Int)) : (PyData.tuple (s.map tI)).depth ≤ 100 := by
  have := depthA_tL s
  simp [PyData.depth]; omega
theorem plain_lt (s : List (List Int)) : (PyData.list (s.map tI)).plain = true := by simp [PyData.plain, plainA_tL]
theorem depth_lt (s : List (List Int)) : (PyData.list (s.map tI)).depth ≤ 100 := by
  have := depthA_tL s
  simp [PyData.depth]; omega
theorem v_corners (μ : Mu) {ws o : List Int} {os : List (List Int)} (g : G ws (o :: os)) : m_corners μ [.d (cl ws (o :: os))] = some (.d (.tuple ((cornersP ws os).map tI)), μ) := by
  have h3 := g.cls.n3
  have hol := g.cls.olen
  have r1 := v_check_class μ g.cls
  have r2 := v_corners_of μ o (ws := ws) (os := os) (by omega) (by omega)
  generalize cl ws (o :: os) = C at *
  simp [m_corners, b_corners, fnM, r1, r2]
theorem filt_map {α β : Type} (f : α → β) : ∀ (cs : List α) (b : List Int), ((((cs.map f).zip b).filter fun q => decide (0 < q.2)).map (·.1)) = ((((cs.zip (patOf b)).filter fun q => decide (0 < q.2)).map (·.1)).map f)
  | [], b => by simp
  | c :: cs, [] => by simp [patOf]
  | c :: cs, x :: b => by
    have ih := filt_map f cs b
    have e : patOf (x :: b) = (if 0 < x then 1 else 0) :: patOf b := rfl
    rw [e, List.map_cons, List.zip_cons_cons, List.zip_cons_cons]
    by_cases h : 0 < x
    · simp [h] at ih ⊢
      exact ih
    · simp [h] at ih ⊢
      exact ih
theorem pat_zero {b : List Int} (h : ∀ x ∈ b, 0 ≤ x) : decide (0 ∈ patOf b) = decide (0 ∈ b) := by
  rw [Bool.eq_iff_iff, decide_eq_true_eq, decide_eq_true_eq]
  unfold patOf
  rw [List.mem_map]
  constructor
  · rintro ⟨x, hx, e⟩
    have := h x hx
    split at e
    · cases e
    · have : x = 0 := by omega
      rw [← this]; exact hx
  · intro h0
    exact ⟨0, h0, by simp⟩
/-- the class that a point is in -/
structure PtCls (μ : Mu) (ws : List Int) (o : List Int) (os : List (List Int)) (S : Int) (b : List Int) (ws2 o2 : List Int) (os2 : List (List Int)) : Prop where
  e : ∀ μ : Mu, m_class_of μ [.d (.tuple (rw_ S (ptP ws os b)))] = some (.d (cl ws2 (o2 :: os2)), μ)
  g : G ws2 (o2 :: os2)
  c : cornersP ws2 os2 = ((((cornersP ws os).zip b).filter fun q => decide (0 < q.2)).map (·.1))
  q : decide (ws2 = ws ∧ o2 :: os2 = o :: os) = !decide (0 ∈ b)
theorem tok_pt {ws o : List Int} {os : List (List Int)} (g : G ws (o :: os)) {S : Int} {b : List Int} (w : Wt S b (o :: os).length) : TOk S ws (ptP ws os b) := by
  have sp := w.s.pos
  refine ⟨ptP_len _ _ _, fun x hx => ?_⟩
  obtain ⟨c, hc, rfl⟩ := mem_gd hx
  rw [ptP_len] at hc
  have h := g.pt w hc
  have hw := g.hw _ (gd_mem hc)
  have h1 : 0 ≤ gd ws c * S := Int.mul_nonneg hw.1 (by omega)
  have h4 : gd ws c + (if (c : Int) ∈ o then 0 else 1) ≤ 4 := by
    split
    · omega
    · rename_i hno
      have hs := (split_facts _ g.hn _ g.hs c (by simpa using hc)).mpr hno
      obtain ⟨x, hx, hcx⟩ := List.mem_flatten.mp hs
      have := g.hlow x hx _ hcx
      simp at this
      omega
  have h2 : (gd ws c + (if (c : Int) ∈ o then 0 else 1)) * S ≤ 4 * S := Int.mul_le_mul_of_nonneg_right h4 (by omega)
  exact ⟨by omega, by omega⟩
theorem pt_cls (μ : Mu) {ws o : List Int} {os : List (List Int)} (g : G ws (o :: os)) {S : Int} {b : List Int} (w : Wt S b (o :: os).length) : ∃ ws2 o2 os2, PtCls μ ws o os S b ws2 o2 os2 := by
  have sp := w.s.pos
  have hp := pat_mem b
  rw [w.len] at hp
  have F := cls_f g.hn g.hs hp (pat_pos w)
  simp only [List.tail_cons] at F
  have hall : ∀ B, 0 < B → (∀ x ∈ ptP ws os b, (L x S).2 ∣ B) → cl ((ptP ws os b).map fun x => x / S) (clsO ((ptP ws os b).map (rst S B))) = cl (ad ws ((ptP (zs ws.length) os (patOf b)).map fun x => x / (patOf b).sum)) (clsO ((ptP (zs ws.length) os (patOf b)).map fun x => x % (patOf b).sum)) := fun B h0 h1 => by
    obtain ⟨k1, k2⟩ := cls_pt g w h0 h1
    rw [k1, k2]
  have he : ∀ μ : Mu, m_class_of μ [.d (.tuple (rw_ S (ptP ws os b)))] = some (.d (cl (ad ws ((ptP (zs ws.length) os (patOf b)).map fun x => x / (patOf b).sum)) (clsO ((ptP (zs ws.length) os (patOf b)).map fun x => x % (patOf b).sum))), μ) := fun μ => by
    obtain ⟨B, b0, b1, b2, e⟩ := v_class_of μ w.s (tok_pt g w) g.hn
    rw [hall B b0 b2] at e
    exact e
  have hwl : ((ptP (zs ws.length) os (patOf b)).map fun x => x / (patOf b).sum).length = ws.length := by rw [List.length_map, ptP_len, zs_len]
  generalize (ptP (zs ws.length) os (patOf b)).map (fun x => x / (patOf b).sum) = wh at *
  obtain ⟨o2, os2, hO⟩ := List.exists_cons_of_ne_nil (clsO_ne ((ptP (zs ws.length) os (patOf b)).map fun x => x % (patOf b).sum))
  rw [hO] at F he
  have hal := ad_len (w := ws) (v := wh) hwl.symm
  refine ⟨ad ws wh, o2, os2, he, ⟨by rw [hal]; exact g.hn, by rw [hal]; exact F.hs, fun x hx => ?_, fun x hx c hc => ?_⟩, ?_, ?_⟩
  · obtain ⟨i, hi, rfl⟩ := mem_gd hx
    rw [hal] at hi
    rw [gd_ad hwl.symm hi]
    have h1 := g.hw _ (gd_mem hi)
    rcases F.w01 i hi with h | ⟨h, hm⟩
    · omega
    · obtain ⟨y, hy, hc⟩ := List.mem_flatten.mp hm
      have := g.hlow y hy _ hc
      simp at this
      omega
  · obtain ⟨k1, k2⟩ := F.low x hx c hc
    obtain ⟨y, hy, hcy⟩ := List.mem_flatten.mp k2
    have h1 := g.hlow y hy _ hcy
    have h2 := g.sh.1 y (List.mem_cons_of_mem _ hy) c hcy
    rw [gd_ad hwl.symm (by omega), k1]
    omega
  · have fc := F.cor
    simp only [List.tail_cons] at fc
    rw [cornersP_ad hwl.symm, fc]
    have e : cornersP ws os = (cornersP (zs ws.length) os).map (ad ws) := by
      rw [← cornersP_ad (by rw [zs_len]), ad_zs]
    rw [e, filt_map]
  · rw [← pat_zero w.nn, ← F.eq, Bool.eq_iff_iff, decide_eq_true_eq, decide_eq_true_eq]
    constructor
    · rintro ⟨h1, h2⟩
      refine ⟨ad_inj (w := ws) hwl.symm (by rw [zs_len]) ?_, h2⟩
      rw [h1, ad_zs]
    · rintro ⟨h1, h2⟩
      exact ⟨by rw [h1, ad_zs], h2⟩
end MR
end
section
set_option Elab.async false
set_option linter.all false
set_option maxHeartbeats 1000000
set_option maxRecDepth 20000
set_option exponentiation.threshold 30000
namespace MR
open PySem PySem.Spec PyProof.Rows L2 VL MF
theorem zip_ng (b : List Int) (gs : List (List Int)) : zipD (nI b) (gs.map tI) = (b.zip gs).map fun p => .tuple [.int p.1, tI p.2] := by
  unfold zipD nI
  rw [List.zip_map, List.map_map]
  rfl
theorem zip_gn (gs : List (List Int)) (b : List Int) : zipD (gs.map tI) (nI b) = (gs.zip b).map fun p => .tuple [tI p.1, .int p.2] := by
  unfold zipD nI
  rw [List.zip_map, List.map_map]
  rfl
theorem tops_go (μ : Mu) {gs : List (List Int)} {b : List Int} {n : Nat} (hg : ∀ x ∈ gs, x.length = n) (hb : ∀ p ∈ b.zip gs, p.1.natAbs < 2 ^ 64) (hl : b.length ≤ 1000) (all : List PyData) : ∀ (l : List Nat) (acc : List Int) (q3 : Option Vw), (∀ i ∈ l, i < n) → acc.length + l.length ≤ 1000 →
    ∃ q3', VL.forM (tNm 3) w2__law_co_tops none all (l.map fun (i : Nat) => PyData.int (i : Int)) [some (.d (.list (gs.map tI))), some (.d (.list (nI b))), some (.loc μ.length), q3, none, none] (μ ++ [nI acc]) =
      some (.nx [some (.d (.list (gs.map tI))), some (.d (.list (nI b))), some (.loc μ.length), q3', none, none] (μ ++ [nI (acc ++ l.map fun i => sm (b.zip gs) fun C => gd C i)]))
  | [], acc, q3, _, _ => ⟨q3, by simp [VL.forM, srcOk_none]⟩
  | i :: l, acc, q3, hi, hb2 => by
    have hi0 := hi i (by simp)
    simp only [List.length_cons] at hb2
    obtain ⟨q3', e⟩ := tops_go μ hg hb hl all l (acc ++ [sm (b.zip gs) fun C => gd C i]) (some (.d (.int (i : Nat)))) (fun j hj => hi j (List.mem_cons_of_mem _ hj)) (by simp; omega)
    refine ⟨q3', ?_⟩
    have ea : acc ++ (i :: l).map (fun i => sm (b.zip gs) fun C => gd C i) = acc ++ [sm (b.zip gs) fun C => gd C i] ++ l.map fun i => sm (b.zip gs) fun C => gd C i := by simp
    rw [ea, ← e]
    have e1 := lc_nI (t := tTp (lCons (tNm 4) (lCons (tNm 5) lNil))) (fe := q1__law_co_tops) (all := zipD (nI b) (gs.map tI)) (ρ := wipeR [some (.d (.list (gs.map tI))), some (.d (.list (nI b))), some (.loc μ.length), some (.d (.int (i : Nat))), none, none] [4, 5]) (μ := μ ++ [nI acc]) (fun p : Int × List Int => PyData.tuple [.int p.1, tI p.2]) (fun p => p.1 * gd p.2 i) (b.zip gs) (fun p hp => by
      have hm := List.of_mem_zip hp
      have ha := atI_nI (ws := p.2) (i := i) (by rw [hg _ hm.2]; exact hi0)
      have m1 : mulOk p.1 (gd p.2 i) = true := mulOk_l (hb p hp)
      refine ⟨_, rfl, ?_⟩
      simp [q1__law_co_tops, wipeR, tI, ha, m1])
    rw [← zip_ng] at e1
    have hs : ((b.zip gs).map fun p => p.1 * gd p.2 i).sum = sm (b.zip gs) fun C => gd C i := rfl
    have ht := toI_nI ((b.zip gs).map fun p => p.1 * gd p.2 i)
    have l1 : (nI ((b.zip gs).map fun p => p.1 * gd p.2 i)).length ≤ 1000000 := by rw [nI_len, List.length_map, List.length_zip]; omega
    have l2 : (nI acc).length < 1000000 := by rw [nI_len]; omega
    have g2 := set_end μ (nI acc) (nI acc ++ [.int (sm (b.zip gs) fun C => gd C i)])
    have g3 : nI (acc ++ [sm (b.zip gs) fun C => gd C i]) = nI acc ++ [.int (sm (b.zip gs) fun C => gd C i)] := by simp [nI]
    rw [g3]
    generalize nI ((b.zip gs).map fun p => p.1 * gd p.2 i) = N at *
    generalize sm (b.zip gs) (fun C => gd C i) = z at *
    generalize nI acc = A at *
    generalize gs.map tI = Gs at *
    generalize nI b = Bn at *
    simp [VL.forM, srcOk_none, w2__law_co_tops, iZipM, e1, l1, ht, hs, l2, g2]
theorem v_co_tops (μ : Mu) {ws o : List Int} {os : List (List Int)} (g : G ws (o :: os)) {S : Int} {b : List Int} (w : Wt S b (o :: os).length) : m__law_co_tops μ [.d (.list ((cornersP ws os).map tI)), .d (.list (nI b))] = some (.d (.list (nI (ptP ws os b))), μ) := by
  have h3 := g.cls.n3
  have hol := g.cls.olen
  have hwl := w.len
  have sl := w.s.le
  obtain ⟨q3, e⟩ := tops_go μ (gs := cornersP ws os) (b := b) (n := ws.length) (fun x hx => cornersP_len hx) (fun p hp => by
    have := w.le _ (List.of_mem_zip hp).1
    omega) (by simp at hwl; omega) (rngD 0 ws.length) (List.range ws.length) [] none (fun i hi => by simpa using hi) (by simp; omega)
  rw [← rngD_map, List.nil_append] at e
  change _ = some (VL.SR.nx _ (μ ++ [nI (ptP ws os b)])) at e
  have a0 : atI ((cornersP ws os).map tI) 0 = some (.tuple (nI ws)) := atI_tL0 _ _
  have hr := rg_of (n := ws.length) (by omega)
  have z1 : nI ([] : List Int) = [] := rfl
  rw [z1] at e
  generalize (cornersP ws os).map tI = Gs at *
  generalize nI (ptP ws os b) = T at *
  generalize nI b = Bn at *
  simp [m__law_co_tops, b__law_co_tops, fnM, a0, nI_len, hr, e]
theorem nd_facts : ∀ n ∈ [1, 2, 3], ∀ s ∈ sh n, (cornersP (zs n) s.tail).Nodup := by decide +kernel
theorem G.nd {ws o : List Int} {os : List (List Int)} (g : G ws (o :: os)) : (cornersP ws os).Nodup := by
  have e : cornersP ws os = (cornersP (zs ws.length) os).map (ad ws) := by
    rw [← cornersP_ad (by rw [zs_len]), ad_zs]
  have f := nd_facts _ g.hn _ g.hs
  rw [e]
  exact List.pairwise_map.mpr (f.imp_of_mem fun ha hc hne z => hne (ad_inj (by rw [cornersP_len ha, zs_len]) (by rw [cornersP_len hc, zs_len]) z))
theorem toKs_tI : ∀ gs : List (List Int), toKs (gs.map tI) = some gs
  | [] => rfl
  | x :: gs => by
    have := toKs_tI gs
    rw [List.map_cons]
    unfold tI at *
    simp [toKs, toI_nI, this]
theorem ov_pt {ws o : List Int} {os : List (List Int)} (g : G ws (o :: os)) {S : Int} {b : List Int} (w : Wt S b (o :: os).length) : ovP S ws (ptP ws os b) = ptP (zs ws.length) os b := by
  have hcn : (cornersP ws os).length = (o :: os).length := by rw [cornersP_n]; simp
  apply gd_ext
  · rw [ovP_len, ptP_len, zs_len]
  · intro i hi
    rw [ovP_len] at hi
    rw [gd_ovP hi, ptP_ad (by rw [w.len, hcn]) w.sum hi]; omega
def okPt (n : Nat) (s : List (List Int)) (b : List Int) : Prop := okR b.sum (s.headD []) s.tail (ptP (zs n) s.tail b) = true ∧ (ladr b.sum (restsI s.tail (ptP (zs n) s.tail b))).reverse = b
theorem ok_pt1 : ∀ s ∈ sh1, ∀ b : List Int, b.length = s.length → (∀ x ∈ b, 0 ≤ x) → okPt 1 s b := by
  intro s hs b hb hn
  simp only [sh1, List.mem_cons, List.not_mem_nil, or_false] at hs
  rcases hs with rfl | rfl <;>
  · first
    | (obtain ⟨p, rfl⟩ := ls1 hb)
    | (obtain ⟨p, q, rfl⟩ := ls2 hb)
    | (obtain ⟨p, q, r, rfl⟩ := ls3 hb)
    | (obtain ⟨p, q, r, t, rfl⟩ := ls4 hb)
    simp at hn
    simp [okPt, okR, ok1, ok2, ok3, ladr, difs, restsI, ptP, cornersP, crs, rz, gd, sm, r1, zs]
    try omega
theorem ok_pt2 : ∀ s ∈ sh2, ∀ b : List Int, b.length = s.length → (∀ x ∈ b, 0 ≤ x) → okPt 2 s b := by
  intro s hs b hb hn
  simp only [sh2, List.mem_cons, List.not_mem_nil, or_false] at hs
  rcases hs with rfl | rfl | rfl | rfl | rfl | rfl <;>
  · first
    | (obtain ⟨p, rfl⟩ := ls1 hb)
    | (obtain ⟨p, q, rfl⟩ := ls2 hb)
    | (obtain ⟨p, q, r, rfl⟩ := ls3 hb)
    | (obtain ⟨p, q, r, t, rfl⟩ := ls4 hb)
    simp at hn
    simp [okPt, okR, ok1, ok2, ok3, ladr, difs, restsI, ptP, cornersP, crs, rz, gd, sm, r2, zs]
    try omega
theorem ok_pt3 : ∀ s ∈ sh3, ∀ b : List Int, b.length = s.length → (∀ x ∈ b, 0 ≤ x) → okPt 3 s b := by
  intro s hs b hb hn
  simp only [sh3, List.mem_cons, List.not_mem_nil, or_false] at hs
  rcases hs with rfl | rfl | rfl | rfl | rfl | rfl | rfl | rfl | rfl | rfl | rfl | rfl | rfl | rfl | rfl | rfl | rfl | rfl | rfl | rfl | rfl | rfl | rfl | rfl | rfl | rfl <;>
  · first
    | (obtain ⟨p, rfl⟩ := ls1 hb)
    | (obtain ⟨p, q, rfl⟩ := ls2 hb)
    | (obtain ⟨p, q, r, rfl⟩ := ls3 hb)
    | (obtain ⟨p, q, r, t, rfl⟩ := ls4 hb)
    simp at hn
    simp [okPt, okR, ok1, ok2, ok3, ladr, difs, restsI, ptP, cornersP, crs, rz, gd, sm, r3, zs]
    try omega
theorem ok_pt {ws o : List Int} {os : List (List Int)} (g : G ws (o :: os)) {S : Int} {b : List Int} (w : Wt S b (o :: os).length) : okR S o os (ovP S ws (ptP ws os b)) = true ∧ (ladr S (restsI os (ovP S ws (ptP ws os b)))).reverse = b := by
  rw [ov_pt g w, ← w.sum]
  have hn := g.hn
  have hs := g.hs
  simp only [List.mem_cons, List.not_mem_nil, or_false] at hn
  rcases hn with h | h | h
  · rw [h] at hs ⊢; exact ok_pt1 _ hs b w.len w.nn
  · rw [h] at hs ⊢; exact ok_pt2 _ hs b w.len w.nn
  · rw [h] at hs ⊢; exact ok_pt3 _ hs b w.len w.nn
end MR
end
section
set_option Elab.async false
set_option linter.all false
set_option maxHeartbeats 4000000
set_option maxRecDepth 20000
set_option exponentiation.threshold 30000
namespace MR
open PySem PySem.Spec PyProof.Rows L2 VL MF
theorem right_step {μ : Mu} {n : Nat} (d : Dice μ n) {ws o : List Int} {os : List (List Int)} (g : G ws (o :: os)) (q3 q4 q5 q6 q7 q8 : Option Vw) :
    ∃ q4' q5' q6' q7' q8' μ', w3__law_right [some (.loc n), some (.d (cl ws (o :: os))), some (.d (.list ((cornersP ws os).map tI))), q3, q4, q5, q6, q7, q8, none, none] μ =
      some (.nx [some (.loc n), some (.d (cl ws (o :: os))), some (.d (.list ((cornersP ws os).map tI))), q3, q4', q5', q6', q7', q8', none, none] μ') ∧ DU μ n μ' := by
  have hk : (o :: os).length ≤ 4 := (sh_facts _ g.hn _ g.hs).2.2.2.2.2
  obtain ⟨b, μ1, e1, u1, w⟩ := v_co_some d (k := (o :: os).length) (by simp) hk
  obtain ⟨S, hS⟩ : ∃ S, S = b.sum := ⟨_, rfl⟩
  rw [← hS] at w
  have sp := w.s.pos
  have ht := tok_pt g w
  have e2 := v_co_tops μ1 g w
  have e3 := v_co_parts μ1 w
  have e4 := v_co_told μ1 w.s (t := ptP ws os b) (by rw [ptP_len]; have := g.cls.n3; omega)
  have e5 := v_point μ1 g w
  have e6 := v_parts μ1 w.s g ht
  have e7 := v_is_by μ1 w.s g ht
  obtain ⟨k1, k2⟩ := ok_pt g w
  unfold partP at e6
  rw [if_pos k1, k2] at e6
  rw [k1] at e7
  obtain ⟨ws2, o2, os2, P⟩ := pt_cls μ1 g w
  have e8 := P.e μ1
  have e9 := v_corners μ1 P.g
  rw [P.c] at e9
  obtain ⟨μ2, e10, u2⟩ := v_near_right (u1.dice d) w.s g ht
  have q1 := oEq_self (μ := μ1) (plain_rt S (ptP ws os b)) (depth_rt S _) true
  have q2 := oEq_self (μ := μ1) (plain_rt S b) (depth_rt S _) true
  have q3e := oEq_self (μ := μ1) (plain_lt ((((cornersP ws os).zip b).filter fun q => decide (0 < q.2)).map (·.1))) (depth_lt _) true
  have q4e := oEq_cl false μ1 ws2 ws (o2 :: os2) (o :: os)
  rw [P.q] at q4e
  have q5e := oIn_lst true μ1 0 b
  have q6e : ∀ c : Bool, oEq true μ1 (.d (.bool c)) (.d (.bool c)) = some (.d (.bool false)) := fun c => by
    have bq : ∀ a b : Bool, PyData.eqv (.bool a) (.bool b) = (a == b) := fun a b => by cases a <;> cases b <;> rfl
    cases c <;> simp [PyData.plain, PyData.depth, bq]
  have e11 : ∀ (a c d f g h i : Option Vw), VL.lcM (tTp (lCons (tNm 9) (lCons (tNm 10) lNil))) r1__law_right q2__law_right none (zipD ((cornersP ws os).map tI) (nI b)) (zipD ((cornersP ws os).map tI) (nI b)) (wipeR [a, c, some (.d (.list ((cornersP ws os).map tI))), d, some (.d (.list (nI b))), f, g, h, i, none, none] [9, 10]) μ1 = some (((((cornersP ws os).zip b).filter fun q => decide (0 < q.2)).map (·.1)).map tI, μ1) := fun a c d f g h i => by
    rw [zip_gn, lcE (fun p : List Int × Int => PyData.tuple [tI p.1, .int p.2]) (fun p => decide (0 < p.2)) (fun p => tI p.1) ((cornersP ws os).zip b) (fun p hp => by
      refine ⟨_, rfl, ?_, fun _ => by simp [q2__law_right, wipeR]⟩
      simp [r1__law_right, wipeR])]
    rw [List.map_map]; rfl
  have l1 : (((((cornersP ws os).zip b).filter fun q => decide (0 < q.2)).map (·.1)).map tI).length ≤ 1000000 := by
    rw [List.length_map, List.length_map]
    have := List.length_filter_le (fun q : List Int × Int => decide (0 < q.2)) ((cornersP ws os).zip b)
    rw [List.length_zip] at this
    have := w.len
    omega
  have hgl : ((cornersP ws os).map tI).length = (o :: os).length := by rw [List.length_map, cornersP_n]; simp
  have hti := toI_nI b
  refine ⟨some (.d (.list (nI b))), some (.d (.list (nI (ptP ws os b)))), some (.d (.int S)), some (.d (.tuple (rw_ S b))), some (.d (.tuple (rw_ S (ptP ws os b)))), μ2, ?_, u1.trans u2⟩
  generalize hF : ((((cornersP ws os).zip b).filter fun q => decide (0 < q.2)).map (·.1)).map tI = F at *
  clear P ht w k1 k2
  generalize (cornersP ws os).map tI = Gs at *
  generalize hC : cl ws (o :: os) = C at *
  generalize cl ws2 (o2 :: os2) = C2 at *
  generalize hb0 : decide (0 ∈ b) = b0 at *
  generalize nI (ptP ws os b) = T at *
  generalize rw_ S (ptP ws os b) = R at *
  generalize hB : nI b = Bn at *
  generalize (o :: os).length = kk at *
  generalize rw_ S b = Rb at *
  simp only [Bool.false_eq_true, if_false, if_true] at q4e q5e
  simp [w3__law_right, hgl, e1, e2, hti, ← hS, e3, e4, e5, -oEq, -oIn, q1, e6, q2, e7, e8, e9, iZipM, e11, l1, q3e, q4e, q5e, q6e, e10]
theorem v_right {μ : Mu} {n : Nat} (d : Dice μ n) : ∃ μ', m__law_right μ [.loc n] = some (.d (.bool true), μ') ∧ DU μ n μ' := by
  obtain ⟨r, μ1, r0, r1, u1, e1⟩ := v_roll' d (most := 3) (by decide) (by decide)
  obtain ⟨N, rfl⟩ : ∃ N : Nat, r = (N : Int) - 1 := ⟨(r + 1).toNat, by omega⟩
  have hN : N ∈ [1, 2, 3] := by simp; omega
  obtain ⟨ws, o, os, μ2, e2, u2, g⟩ := v_co_class (u1.dice d) hN
  have h3 := g.cls.n3
  have hol := g.cls.olen
  have hfl := g.cls.flen
  have e3 := v_co_corners μ2 (ws := ws) (os := o :: os) (by omega) (by simp; omega) (by omega)
  rw [corn_eq g.hn g.hs, List.tail_cons] at e3
  have e4 := v_corners μ2 g
  have q1 := oEq_self (μ := μ2) (plain_tl (cornersP ws os)) (depth_tl _) true
  have hk := toKs_tI (cornersP ws os)
  have hnd := g.nd
  have hcn : (cornersP ws os).length < 64 := by rw [cornersP_n]; omega
  have hgl : ((cornersP ws os).map tI).length = (cornersP ws os).length := by simp
  have hadd : (1 : Int) + ((N : Int) - 1) = N := by omega
  obtain ⟨ρ', μ3, e5, hI⟩ := forM_run (t := tNm 3) (body := w3__law_right) (all := rngD 0 5)
    (fun _ ρ μ' => ∃ q3 q4 q5 q6 q7 q8, ρ = [some (.loc n), some (.d (cl ws (o :: os))), some (.d (.list ((cornersP ws os).map tI))), q3, q4, q5, q6, q7, q8, none, none] ∧ DU μ n μ')
    (fun x ds ρ μ3 ⟨q3, q4, q5, q6, q7, q8, er, u⟩ => by
      subst er
      obtain ⟨q4', q5', q6', q7', q8', μ4, e, u4⟩ := right_step (u.dice d) g (some (.d x)) q4 q5 q6 q7 q8
      exact ⟨_, _, μ4, rfl, e, _, _, _, _, _, _, rfl, u.trans u4⟩)
    (rngD 0 5) [some (.loc n), some (.d (cl ws (o :: os))), some (.d (.list ((cornersP ws os).map tI))), none, none, none, none, none, none, none, none] μ2 ⟨none, none, none, none, none, none, rfl, u1.trans u2⟩
  obtain ⟨q3, q4, q5, q6, q7, q8, er, u⟩ := hI
  subst er
  have len := u.len
  have tk : μ3.take μ.length = μ3 := List.take_of_length_le (by omega)
  have h5 : rgOk 0 5 := rgOk_of (by decide) (by decide) (by decide) (by decide)
  refine ⟨μ3, ?_, u⟩
  change m__law_co_corners μ2 [.d (cl ws (o :: os))] = _ at e3
  have lq : (oLenT μ2 [.d (.list ((cornersP ws os).map tI))]) = some (.d (.int ((cornersP ws os).length : Nat))) := by
    simp only [oLenT, hk]
    rw [if_pos ⟨hnd, hcn⟩]
  have q2 : oEq true μ2 (.d (.int ((cornersP ws os).length : Nat))) (.d (.int ((cornersP ws os).length : Nat))) = some (.d (.bool false)) := by
    simp [PyData.plain, PyData.depth, PyData.eqv]
  generalize (cornersP ws os).length = kk at *
  generalize (cornersP ws os).map tI = Gs at *
  generalize cl ws (o :: os) = C at *
  simp [m__law_right, b__law_right, fnM, e1, hadd, e2, e3, e4, -oEq, q1, -oLenT, lq, hgl, q2, h5, e5, tk]
theorem gg1 : G [1, 0] ([0] :: [[1]]) := ⟨by decide, by decide, by decide, by decide⟩
theorem gg2 : G [3, 0, 1] ([] :: [[1, 2], [0]]) := ⟨by decide, by decide, by decide, by decide⟩
theorem gg3 : G [4] ([0] :: []) := ⟨by decide, by decide, by decide, by decide⟩
theorem ww4 : Wt 4 [2, 1, 1] ([] :: [[1, 2], [0]] : List (List Int)).length := ⟨⟨by decide, by decide⟩, by decide, by decide, rfl, by decide⟩
theorem tt1 : TOk 3 [1, 0] [3, 1] := ⟨rfl, by decide⟩
theorem tt2 : TOk 6 [1, 0] [9, 2] := ⟨rfl, by decide⟩
theorem s3 : SOk 3 := ⟨by decide, by decide⟩
theorem s6 : SOk 6 := ⟨by decide, by decide⟩
def oneX : PyData := .tuple [.tuple [.int 1, .int 0], .tuple [.tuple [.int 0], .tuple [.int 1]]]
def twoX : PyData := .tuple [.tuple [.int 3, .int 0, .int 1], .tuple [.tuple [], .tuple [.int 1, .int 2], .tuple [.int 0]]]
def thrX : PyData := .tuple [.tuple [.int 4], .tuple [.tuple [.int 0]]]
theorem ff1 (μ : Mu) : m_corners μ [.d oneX] = some (.d (.tuple [.tuple [.int 1, .int 0], .tuple [.int 1, .int 1]]), μ) := v_corners μ gg1
theorem ff2 (μ : Mu) : m_corners μ [.d twoX] = some (.d (.tuple [.tuple [.int 3, .int 0, .int 1], .tuple [.int 4, .int 0, .int 1], .tuple [.int 4, .int 1, .int 2]]), μ) := v_corners μ gg2
theorem ff3 (μ : Mu) : m_corners μ [.d thrX] = some (.d (.tuple [.tuple [.int 4]]), μ) := v_corners μ gg3
theorem ff4 (μ : Mu) : m_parts μ [.d oneX, .d (.tuple [.tuple [.int 1, .int 1], .tuple [.int 1, .int 3]])] = some (.d (.tuple [.tuple [.int 2, .int 3], .tuple [.int 1, .int 3]]), μ) := by
  have := v_parts μ s3 gg1 tt1
  have e1 : PyData.tuple (rw_ 3 [3, 1]) = .tuple [.tuple [.int 1, .int 1], .tuple [.int 1, .int 3]] := by kernel_rfl
  have e2 : partP 3 [0] [[1]] (ovP 3 [1, 0] [3, 1]) = .tuple [.tuple [.int 2, .int 3], .tuple [.int 1, .int 3]] := by kernel_rfl
  rw [e1, e2] at this
  exact this
theorem ff5 (μ : Mu) : m_parts μ [.d oneX, .d (.tuple [.tuple [.int 3, .int 2], .tuple [.int 1, .int 3]])] = some (.d .none, μ) := by
  have := v_parts μ s6 gg1 tt2
  have e1 : PyData.tuple (rw_ 6 [9, 2]) = .tuple [.tuple [.int 3, .int 2], .tuple [.int 1, .int 3]] := by kernel_rfl
  have e2 : partP 6 [0] [[1]] (ovP 6 [1, 0] [9, 2]) = .none := by kernel_rfl
  rw [e1, e2] at this
  exact this
theorem ff6 (μ : Mu) : m_point μ [.d twoX, .d (.tuple [.tuple [.int 1, .int 2], .tuple [.int 1, .int 4], .tuple [.int 1, .int 4]])] = some (.d (.tuple [.tuple [.int 7, .int 2], .tuple [.int 1, .int 4], .tuple [.int 5, .int 4]]), μ) := by
  have := v_point μ gg2 ww4
  have e1 : PyData.tuple (rw_ 4 [2, 1, 1]) = .tuple [.tuple [.int 1, .int 2], .tuple [.int 1, .int 4], .tuple [.int 1, .int 4]] := by kernel_rfl
  have e2 : PyData.tuple (rw_ 4 (ptP [3, 0, 1] [[1, 2], [0]] [2, 1, 1])) = .tuple [.tuple [.int 7, .int 2], .tuple [.int 1, .int 4], .tuple [.int 5, .int 4]] := by kernel_rfl
  rw [e1, e2] at this
  exact this
theorem law_true (ns : List Int) (hl : ns.length ≤ 63) : ∃ μ', m_law [] [.kl ns] = some (.d (.bool true), μ') := by
  obtain ⟨mx, hmx⟩ : ∃ mx, mx = (if (if ((ns.length : Nat) : Int) < 3 then ((ns.length : Nat) : Int) else 3) > 1 then (if ((ns.length : Nat) : Int) < 3 then ((ns.length : Nat) : Int) else 3) else 1) := ⟨_, rfl⟩
  obtain ⟨ρ2, μ2, e2, z1, z2, z3, er, _⟩ := forM_run (t := tNm 1) (body := w2_law) (all := rngD 0 mx.toNat)
    (fun ds ρ μ' => ∃ z1 z2 z3, ρ = [some (.kl ns), z1, z2, z3, none, none, none, none] ∧ ∀ d ∈ ds, ∃ j : Int, d = .int j ∧ 0 ≤ j)
    (fun d ds ρ μ ⟨z1, z2, z3, er, hd⟩ => by
      subst er
      obtain ⟨j, rfl, hj⟩ := hd d (by simp)
      obtain ⟨a, b, ed⟩ := v_dice μ ns j hj
      have dd : Dice (μ ++ [[.int a, .int b, .int 0]]) μ.length := ⟨a, b, 0, by simp⟩
      obtain ⟨ρ', μ', e5, d5, z3', er5⟩ := forM_run (t := tNm 3) (body := w1_law) (all := rngD 0 3)
        (fun ds ρ μ' => Dice μ' μ.length ∧ ∃ z3, ρ = [some (.kl ns), some (.d (.int j)), some (.loc μ.length), z3, none, none, none, none])
        (fun d ds ρ μ1 ⟨d1, z3, er⟩ => by
          subst er
          obtain ⟨μ2, e1, u1⟩ := v_right d1
          exact ⟨_, _, μ2, rfl, by simp [w1_law, e1], u1.dice d1, some (.d d), rfl⟩)
        (rngD 0 3) [some (.kl ns), some (.d (.int j)), some (.loc μ.length), z3, none, none, none, none] (μ ++ [[.int a, .int b, .int 0]]) ⟨dd, z3, rfl⟩
      subst er5
      refine ⟨_, _, μ', rfl, ?_, some (.d (.int j)), some (.loc μ.length), z3', rfl, fun x hx => hd x (List.mem_cons_of_mem _ hx)⟩
      have h4 : rgOk 0 3 := rgOk_of (by decide) (by decide) (by decide) (by decide)
      simp [w2_law, ed, h4]
      rw [e5])
    (rngD 0 mx.toNat) [some (.kl ns), none, none, none, none, none, none, none] [] ⟨none, none, none, rfl, fun d hd => by
      obtain ⟨i, hi⟩ := List.getElem?_of_mem hd
      obtain ⟨_, rfl⟩ := rngD_get hi
      exact ⟨_, rfl, by omega⟩⟩
  subst er
  have hb : rgOk 0 mx := by
    have : 0 ≤ mx ∧ mx ≤ 100 := by rw [hmx]; split <;> (try split) <;> omega
    exact rgOk_of (by decide) (by decide) (by omega) (by omega)
  have F1 := fun μ => ff1 μ
  have F2 := fun μ => ff2 μ
  have F3 := fun μ => ff3 μ
  have F4 := fun μ => ff4 μ
  have F5 := fun μ => ff5 μ
  have F6 := fun μ => ff6 μ
  simp only [oneX, twoX, thrX] at F1 F2 F3 F4 F5 F6
  refine ⟨[], ?_⟩
  simp only [m_law, b_law, fnM]
  simp
  simp only [gt_iff_lt] at hmx
  rw [← hmx]
  simp [hb]
  rw [e2]
  simp [F1, F2, F3, F4, F5, F6, PyData.eqv, PyData.eqvAll, PyData.plain, PyData.plainAll, PyData.depth, PyData.depthAll]
end MR
end
section
set_option Elab.async false
set_option linter.all false
set_option maxRecDepth 100000
namespace MR
open PySem PySem.Spec PyProof.Rows L2 VL
def top (i : Nat) : Stmt := PySem.Challenge.pw_anymargin_k12_whole_corners_and_weights.main.body.getD i (.Pass ⟨0, 0, 0, 0⟩)
/-- what the top says of names -/
structure Txt (K : PySem.W.Frag) (mg : Str → Option Value) : Prop where
  n_abs : mg "abs" = none
  n_all : mg "all" = none
  n_any : mg "any" = none
  n_bool : mg "bool" = none
  n_enumerate : mg "enumerate" = none
  n_int : mg "int" = none
  n_isinstance : mg "isinstance" = none
  n_len : mg "len" = none
  n_list : mg "list" = none
  n_max : mg "max" = none
  n_min : mg "min" = none
  n_range : mg "range" = none
  n_reversed : mg "reversed" = none
  n_set : mg "set" = none
  n_sorted : mg "sorted" = none
  n_sum : mg "sum" = none
  n_tuple : mg "tuple" = none
  n_zip : mg "zip" = none
  i_GREATEST : ∃ t, mg "GREATEST" = some (.int 999999999999999999999999999999999999999999999999999999999999 t)
  i_MOST_CLOCKS : ∃ t, mg "MOST_CLOCKS" = some (.int 3 t)
  i_MOST_NUMBER : ∃ t, mg "MOST_NUMBER" = some (.int 4 t)
  t_UNIT : mg "UNIT" = some (.ref (He.ga K "UNIT")) ∧ ∀ A H, Da K A H (.tuple [(.int 1), (.int 1)]) (.ref (He.ga K "UNIT"))
  t_ZERO : mg "ZERO" = some (.ref (He.ga K "ZERO")) ∧ ∀ A H, Da K A H (.tuple [(.int 0), (.int 1)]) (.ref (He.ga K "ZERO"))
  g_gcd : mg "gcd" = some (.builtin "math.gcd")
  g_lcm : mg "lcm" = some (.builtin "math.lcm")
abbrev FnP (K : PySem.W.Frag) (x : Str) (i : Nat) : Prop := ∃ fd, FunD K x x (defArgs (top i)) (defBody (top i)) (defScope (top i)) [] [] (He.ga K x) fd
section
variable {P : Program} {w : World} {K : PySem.W.Frag} {mg : Str → Option Value} {base : Heap}
abbrev N__law_dice : List Str := ["script", "spot", "cell", "left"]
theorem S__law_dice : FnScope ["script", "spot", "cell", "left"] ["script", "spot"] (defScope (top 50)) := ⟨rfl, rfl, rfl, by decide +kernel, rfl, by decide +kernel, by decide +kernel⟩
theorem c__law_dice (T : Txt K mg) (hf : mg "_law_dice" = some (.ref (He.ga K "_law_dice"))) (F : FnP K "_law_dice" 50)  : CalM P w K mg base 1 "_law_dice" 2 m__law_dice := by
  obtain ⟨fd, F⟩ := F
  refine cal_ok true (k := 0) hf F S__law_dice (fun _ _ _ _ _ _ us hl => match us, hl with | [_, _], _ => rfl) (fun cdv A outer s H E hr => ?_)
  exact (ssj_cons (sj_set (i := 2) S__law_dice.nd (ej_if (tj_cmp op_lt qLt (ej_var 1) (ej_bi call_len oLen_ok T.n_len (aj_cons (ej_var 0) aj_nil) (by decide +kernel))) (ej_ty call_int1 oInt_ok T.n_int (aj_cons (ej_item (ej_var 0) (ej_var 1)) aj_nil) (by decide +kernel)) (ej_add (ej_mul ej_int (ej_var 1)) ej_int)))
    (ssj_cons (sj_set (i := 3) S__law_dice.nd (ej_mod (ej_bi (call_max2 rfl) oMax2_ok T.n_max (aj_cons ej_int (aj_cons (ej_sub (ej_bi call_abs oAbs_ok T.n_abs (aj_cons (ej_var 2) aj_nil) (by decide +kernel)) (ej_pow ej_int ej_int)) aj_nil)) (by decide +kernel)) (ej_mul (ej_pow ej_int ej_int) (ej_pow ej_int ej_int))))
    (ssj_one (sj_ret (ej_lstC (aj_cons (ej_var 3) (aj_cons (ej_add (ej_add (ej_add (ej_mul (ej_mod (ej_bi call_abs oAbs_ok T.n_abs (aj_cons (ej_var 2) aj_nil) (by decide +kernel)) ej_int) ej_int) (ej_mul ej_int (ej_var 1))) (ej_mul ej_int (ej_ty call_int1 oInt_ok T.n_int (aj_cons (ej_cmp op_lt qLt (ej_var 2) ej_int) aj_nil) (by decide +kernel)))) ej_int) (aj_cons ej_int aj_nil))))))))
abbrev N_is_row : List Str := ["many", "value"]
theorem S_is_row : FnScope ["many", "value"] ["many", "value"] (defScope (top 11)) := ⟨rfl, rfl, rfl, by decide +kernel, rfl, by decide +kernel, by decide +kernel⟩
theorem c_is_row (T : Txt K mg) (hf : mg "is_row" = some (.ref (He.ga K "is_row"))) (F : FnP K "is_row" 11)  : CalM P w K mg base 1 "is_row" 2 m_is_row := by
  obtain ⟨fd, F⟩ := F
  refine cal_ok false (k := 0) hf F S_is_row (fun _ _ _ _ _ _ us hl => match us, hl with | [_, _], _ => rfl) (fun cdv A outer s H E hr => ?_)
  exact (ssj_one (sj_ret (ej_and (ej_isi "tuple" (by decide +kernel) T.n_isinstance T.n_tuple (ej_var 1) (by decide +kernel)) (ej_one (ej_cmp (op_eqP (hu200 hr)) oEq_ok (ej_bi call_len oLen_ok T.n_len (aj_cons (ej_var 1) aj_nil) (by decide +kernel)) (ej_var 0))))))
abbrev N_is_some_row : List Str := ["value"]
theorem S_is_some_row : FnScope ["value"] ["value"] (defScope (top 30)) := ⟨rfl, rfl, rfl, by decide +kernel, rfl, by decide +kernel, by decide +kernel⟩
theorem c_is_some_row (T : Txt K mg) (hf : mg "is_some_row" = some (.ref (He.ga K "is_some_row"))) (F : FnP K "is_some_row" 30)  : CalM P w K mg base 1 "is_some_row" 1 m_is_some_row := by
  obtain ⟨fd, F⟩ := F
  refine cal_ok false (k := 0) hf F S_is_some_row (fun _ _ _ _ _ _ us hl => match us, hl with | [_], _ => rfl) (fun cdv A outer s H E hr => ?_)
  exact (ssj_one (sj_ret (ej_and (ej_isi "tuple" (by decide +kernel) T.n_isinstance T.n_tuple (ej_var 0) (by decide +kernel)) (ej_one (ej_chain op_le qLe op_le qLe ej_int (ej_bi call_len oLen_ok T.n_len (aj_cons (ej_var 0) aj_nil) (by decide +kernel)) (ej_gint T.i_MOST_CLOCKS))))))
abbrev N_is_number : List Str := ["value"]
theorem S_is_number : FnScope ["value"] ["value"] (defScope (top 8)) := ⟨rfl, rfl, rfl, by decide +kernel, rfl, by decide +kernel, by decide +kernel⟩
theorem c_is_number (T : Txt K mg) (hf : mg "is_number" = some (.ref (He.ga K "is_number"))) (F : FnP K "is_number" 8)  : CalM P w K mg base 1 "is_number" 1 m_is_number := by
  obtain ⟨fd, F⟩ := F
  refine cal_ok false (k := 0) hf F S_is_number (fun _ _ _ _ _ _ us hl => match us, hl with | [_], _ => rfl) (fun cdv A outer s H E hr => ?_)
  exact (ssj_one (sj_ret (ej_and (ej_isi "int" (by decide +kernel) T.n_isinstance T.n_int (ej_var 0) (by decide +kernel)) (ej_and (ej_notT (ej_isi "bool" (by decide +kernel) T.n_isinstance T.n_bool (ej_var 0) (by decide +kernel))) (ej_one (ej_chain op_le qLe op_le qLe (ej_neg (ej_gint T.i_GREATEST)) (ej_var 0) (ej_gint T.i_GREATEST)))))))
abbrev N_is_from_to : List Str := ["value", "low", "high"]
theorem S_is_from_to : FnScope ["value", "low", "high"] ["value", "low", "high"] (defScope (top 9)) := ⟨rfl, rfl, rfl, by decide +kernel, rfl, by decide +kernel, by decide +kernel⟩
theorem c_is_from_to (T : Txt K mg) (hf : mg "is_from_to" = some (.ref (He.ga K "is_from_to"))) (F : FnP K "is_from_to" 9) (c_is_number : CalM P w K mg base 1 "is_number" 1 m_is_number) : CalM P w K mg base 2 "is_from_to" 3 m_is_from_to := by
  obtain ⟨fd, F⟩ := F
  refine cal_ok false (k := 1) hf F S_is_from_to (fun _ _ _ _ _ _ us hl => match us, hl with | [_, _, _], _ => rfl) (fun cdv A outer s H E hr => ?_)
  exact (ssj_one (sj_ret (ej_and (ej_call (c_is_number.mono (by decide)) hr (aj_cons (ej_var 0) aj_nil)) (ej_one (ej_chain op_le qLe op_le qLe (ej_var 1) (ej_var 0) (ej_var 2))))))
abbrev N_are_numbers : List Str := ["many", "low", "high", "value", "member"]
theorem S_are_numbers : FnScope ["many", "low", "high", "value", "member"] ["many", "low", "high", "value"] (defScope (top 10)) := ⟨rfl, rfl, rfl, by decide +kernel, rfl, by decide +kernel, by decide +kernel⟩
theorem c_are_numbers (T : Txt K mg) (hf : mg "are_numbers" = some (.ref (He.ga K "are_numbers"))) (F : FnP K "are_numbers" 10) (c_is_from_to : CalM P w K mg base 2 "is_from_to" 3 m_is_from_to) (c_is_row : CalM P w K mg base 1 "is_row" 2 m_is_row) : CalM P w K mg base 3 "are_numbers" 4 m_are_numbers := by
  obtain ⟨fd, F⟩ := F
  refine cal_ok false (k := 2) hf F S_are_numbers (fun _ _ _ _ _ _ us hl => match us, hl with | [_, _, _, _], _ => rfl) (fun cdv A outer s H E hr => ?_)
  exact (ssj_one (sj_ret (ej_and (ej_call (c_is_row.mono (by decide)) hr (aj_cons (ej_var 0) (aj_cons (ej_var 3) aj_nil))) (ej_one (ej_bi (cr_all rfl) oAll_ok T.n_all (aj_cons (ej_lc (own := [("member", 4)]) rfl S_are_numbers.nd (ij_seq (ej_var 3)) (blkOk_by (N := N_are_numbers) (sc := defScope (top 10)) (by decide +kernel)) (by decide) (fun _ _ _ _ _ => (gj_nm 4 S_are_numbers.nd)) (fun _ _ _ _ _ => tsj_nil) (fun _ _ _ _ _ => (ej_call (c_is_from_to.mono (by decide)) hr (aj_cons (ej_var 4) (aj_cons (ej_var 1) (aj_cons (ej_var 2) aj_nil)))))) aj_nil) (by decide +kernel))))))
abbrev N_is_ascending : List Str := ["size", "value", "ahead", "member"]
theorem S_is_ascending : FnScope ["size", "value", "ahead", "member"] ["size", "value"] (defScope (top 12)) := ⟨rfl, rfl, rfl, by decide +kernel, rfl, by decide +kernel, by decide +kernel⟩
theorem c_is_ascending (T : Txt K mg) (hf : mg "is_ascending" = some (.ref (He.ga K "is_ascending"))) (F : FnP K "is_ascending" 12)  : CalM P w K mg base 1 "is_ascending" 2 m_is_ascending := by
  obtain ⟨fd, F⟩ := F
  refine cal_ok false (k := 0) hf F S_is_ascending (fun _ _ _ _ _ _ us hl => match us, hl with | [_, _], _ => rfl) (fun cdv A outer s H E hr => ?_)
  exact (ssj_cons (sj_if (tj_not (tj_tru (ej_isi "tuple" (by decide +kernel) T.n_isinstance T.n_tuple (ej_var 1) (by decide +kernel)))) (ssj_one (sj_ret ej_bl)) ssj_nil)
    (ssj_cons (sj_set (i := 2) S_is_ascending.nd (ej_neg ej_int))
    (ssj_cons (sj_for PassesOwn.never rfl (ij_seq (ej_var 1)) (gj_nm 3 S_is_ascending.nd) (ssj_cons (sj_if (tj_w (wj_or (tj_not (tj_tru (ej_isi "int" (by decide +kernel) T.n_isinstance T.n_int (ej_var 3) (by decide +kernel)))) (wj_or (tj_tru (ej_isi "bool" (by decide +kernel) T.n_isinstance T.n_bool (ej_var 3) (by decide +kernel))) (wj_or1 (tj_not (tj_chain op_lt qLt op_lt qLt (ej_var 2) (ej_var 3) (ej_var 0))))))) (ssj_one (sj_ret ej_bl)) ssj_nil)
    (ssj_one (sj_set (i := 2) S_is_ascending.nd (ej_var 3)))))
    (ssj_one (sj_ret ej_bl)))))
abbrev N_has_class_form : List Str := ["clocks", "value", "wholes", "order", "group", "clock"]
theorem S_has_class_form : FnScope ["clocks", "value", "wholes", "order", "group", "clock"] ["clocks", "value"] (defScope (top 34)) := ⟨rfl, rfl, rfl, by decide +kernel, rfl, by decide +kernel, by decide +kernel⟩
theorem c_has_class_form (T : Txt K mg) (hf : mg "has_class_form" = some (.ref (He.ga K "has_class_form"))) (F : FnP K "has_class_form" 34) (c_are_numbers : CalM P w K mg base 3 "are_numbers" 4 m_are_numbers) (c_is_ascending : CalM P w K mg base 1 "is_ascending" 2 m_is_ascending) (c_is_row : CalM P w K mg base 1 "is_row" 2 m_is_row) : CalM P w K mg base 4 "has_class_form" 2 m_has_class_form := by
  obtain ⟨fd, F⟩ := F
  refine cal_ok false (k := 3) hf F S_has_class_form (fun _ _ _ _ _ _ us hl => match us, hl with | [_, _], _ => rfl) (fun cdv A outer s H E hr => ?_)
  exact (ssj_cons (sj_if (tj_w (wj_or (tj_not (tj_tru (ej_call (c_is_row.mono (by decide)) hr (aj_cons ej_int (aj_cons (ej_var 1) aj_nil))))) (wj_or1 (tj_not (tj_tru (ej_call (c_are_numbers.mono (by decide)) hr (aj_cons (ej_var 0) (aj_cons ej_int (aj_cons (ej_gint T.i_MOST_NUMBER) (aj_cons (ej_item (ej_var 1) ej_int) aj_nil)))))))))) (ssj_one (sj_ret ej_bl)) ssj_nil)
    (ssj_cons (sj_asg (ej_var 1) (gj_tp rfl (gjs_cons (gj_nm 2 S_has_class_form.nd) (gjs_cons (gj_nm 3 S_has_class_form.nd) gjs_nil)) (lCons_len (lCons_len lNil_len))))
    (ssj_cons (sj_if (tj_w (wj_or (tj_not (tj_tru (ej_isi "tuple" (by decide +kernel) T.n_isinstance T.n_tuple (ej_var 3) (by decide +kernel)))) (wj_or (tj_not (tj_tru (ej_var 3))) (wj_or1 (tj_not (tj_tru (ej_bi (cr_all rfl) oAll_ok T.n_all (aj_cons (ej_lc (own := [("group", 4)]) rfl S_has_class_form.nd (ij_seq (ej_var 3)) (blkOk_by (N := N_has_class_form) (sc := defScope (top 34)) (by decide +kernel)) (by decide) (fun _ _ _ _ _ => (gj_nm 4 S_has_class_form.nd)) (fun _ _ _ _ _ => tsj_nil) (fun _ _ _ _ _ => (ej_call (c_is_ascending.mono (by decide)) hr (aj_cons (ej_var 0) (aj_cons (ej_var 4) aj_nil))))) aj_nil) (by decide +kernel)))))))) (ssj_one (sj_ret ej_bl)) ssj_nil)
    (ssj_cons (sj_if (tj_w (wj_or (tj_cmp (op_inP (hu200 hr)) oIn_ok (ej_tup aj_nil) (ej_sl (ej_var 3) (oj_yes ej_int) oj_no)) (wj_or1 (tj_cmp (op_neP (hu200 hr)) oEq_ok (ej_bi cr_sortedIT oSortedIT_ok T.n_sorted (aj_cons (ej_lc2 (own := [("group", 4), ("clock", 5)]) (vs1 := [5]) rfl S_has_class_form.nd (ij_seq (ej_var 3)) (blkOk_by (N := N_has_class_form) (sc := defScope (top 34)) (by decide +kernel)) (by decide) (by decide) (by decide) (fun _ _ _ _ _ => (gj_nm 4 S_has_class_form.nd)) (fun _ _ _ _ _ => tsj_nil) (fun _ _ _ _ _ => (ij_seq (ej_var 4))) (fun _ _ _ _ _ => (gj_nm 5 S_has_class_form.nd)) (fun _ _ _ _ _ => tsj_nil) (fun _ _ _ _ _ => (ej_var 5))) aj_nil) (by decide +kernel)) (ej_lstRg rfl T.n_list T.n_range (ej_var 0)))))) (ssj_one (sj_ret ej_bl)) ssj_nil)
    (ssj_one (sj_ret (ej_bi (cr_all rfl) oAll_ok T.n_all (aj_cons (ej_lc2 (own := [("group", 4), ("clock", 5)]) (vs1 := [5]) rfl S_has_class_form.nd (ij_seq (ej_sl (ej_var 3) (oj_yes ej_int) oj_no)) (blkOk_by (N := N_has_class_form) (sc := defScope (top 34)) (by decide +kernel)) (by decide) (by decide) (by decide) (fun _ _ _ _ _ => (gj_nm 4 S_has_class_form.nd)) (fun _ _ _ _ _ => tsj_nil) (fun _ _ _ _ _ => (ij_seq (ej_var 4))) (fun _ _ _ _ _ => (gj_nm 5 S_has_class_form.nd)) (fun _ _ _ _ _ => tsj_nil) (fun _ _ _ _ _ => (ej_cmp op_lt qLt (ej_item (ej_var 2) (ej_var 5)) (ej_gint T.i_MOST_NUMBER)))) aj_nil) (by decide +kernel))))))))
abbrev N_check_class : List Str := ["cls"]
theorem S_check_class : FnScope ["cls"] ["cls"] (defScope (top 35)) := ⟨rfl, rfl, rfl, by decide +kernel, rfl, by decide +kernel, by decide +kernel⟩
theorem c_check_class (T : Txt K mg) (hf : mg "check_class" = some (.ref (He.ga K "check_class"))) (F : FnP K "check_class" 35) (c_has_class_form : CalM P w K mg base 4 "has_class_form" 2 m_has_class_form) (c_is_row : CalM P w K mg base 1 "is_row" 2 m_is_row) (c_is_some_row : CalM P w K mg base 1 "is_some_row" 1 m_is_some_row) : CalM P w K mg base 5 "check_class" 1 m_check_class := by
  obtain ⟨fd, F⟩ := F
  refine cal_ok false (k := 4) hf F S_check_class (fun _ _ _ _ _ _ us hl => match us, hl with | [_], _ => rfl) (fun cdv A outer s H E hr => ?_)
  exact (ssj_one (sj_if (tj_w (wj_or (tj_not (tj_tru (ej_call (c_is_row.mono (by decide)) hr (aj_cons ej_int (aj_cons (ej_var 0) aj_nil))))) (wj_or (tj_not (tj_tru (ej_call (c_is_some_row.mono (by decide)) hr (aj_cons (ej_item (ej_var 0) ej_int) aj_nil)))) (wj_or1 (tj_not (tj_tru (ej_call (c_has_class_form.mono (by decide)) hr (aj_cons (ej_bi call_len oLen_ok T.n_len (aj_cons (ej_item (ej_var 0) ej_int) aj_nil) (by decide +kernel)) (aj_cons (ej_var 0) aj_nil))))))))) (ssj_one sj_never) ssj_nil))
abbrev N_raised : List Str := ["wholes", "clocks", "clock"]
theorem S_raised : FnScope ["wholes", "clocks", "clock"] ["wholes", "clocks"] (defScope (top 39)) := ⟨rfl, rfl, rfl, by decide +kernel, rfl, by decide +kernel, by decide +kernel⟩
theorem c_raised (T : Txt K mg) (hf : mg "raised" = some (.ref (He.ga K "raised"))) (F : FnP K "raised" 39)  : CalM P w K mg base 1 "raised" 2 m_raised := by
  obtain ⟨fd, F⟩ := F
  refine cal_ok false (k := 0) hf F S_raised (fun _ _ _ _ _ _ us hl => match us, hl with | [_, _], _ => rfl) (fun cdv A outer s H E hr => ?_)
  exact (ssj_one (sj_ret (ej_ty call_tuple_of oTupleOf_ok T.n_tuple (aj_cons (ej_lc (own := [("clock", 2)]) rfl S_raised.nd (ij_rg1 T.n_range (ej_bi call_len oLen_ok T.n_len (aj_cons (ej_var 0) aj_nil) (by decide +kernel))) (blkOk_by (N := N_raised) (sc := defScope (top 39)) (by decide +kernel)) (by decide) (fun _ _ _ _ _ => (gj_nm 2 S_raised.nd)) (fun _ _ _ _ _ => tsj_nil) (fun _ _ _ _ _ => (ej_if (tj_cmp (op_inP (hu200 hr)) oIn_ok (ej_var 2) (ej_var 1)) (ej_add (ej_item (ej_var 0) (ej_var 2)) ej_int) (ej_item (ej_var 0) (ej_var 2))))) aj_nil) (by decide +kernel))))
abbrev N_corners_of : List Str := ["cls", "wholes", "order", "found", "group"]
theorem S_corners_of : FnScope ["cls", "wholes", "order", "found", "group"] ["cls"] (defScope (top 45)) := ⟨rfl, rfl, rfl, by decide +kernel, rfl, by decide +kernel, by decide +kernel⟩
theorem c_corners_of (T : Txt K mg) (hf : mg "corners_of" = some (.ref (He.ga K "corners_of"))) (F : FnP K "corners_of" 45) (c_raised : CalM P w K mg base 1 "raised" 2 m_raised) : CalM P w K mg base 2 "corners_of" 1 m_corners_of := by
  obtain ⟨fd, F⟩ := F
  refine cal_ok false (k := 1) hf F S_corners_of (fun _ _ _ _ _ _ us hl => match us, hl with | [_], _ => rfl) (fun cdv A outer s H E hr => ?_)
  exact (ssj_cons (sj_asg (ej_var 0) (gj_tp rfl (gjs_cons (gj_nm 1 S_corners_of.nd) (gjs_cons (gj_nm 2 S_corners_of.nd) gjs_nil)) (lCons_len (lCons_len lNil_len))))
    (ssj_cons (sj_set (i := 3) S_corners_of.nd (ej_lstC (aj_cons (ej_var 1) aj_nil)))
    (ssj_cons (sj_for PassesOwn.never rfl (ij_rev T.n_reversed (ej_sl (ej_var 2) (oj_yes ej_int) oj_no)) (gj_nm 4 S_corners_of.nd) (ssj_one (sj_app (ej_var 3) (ej_call (c_raised.mono (by decide)) hr (aj_cons (ej_item (ej_var 3) (ej_neg ej_int)) (aj_cons (ej_var 4) aj_nil))))))
    (ssj_one (sj_ret (ej_ty call_tuple_of oTupleOf_ok T.n_tuple (aj_cons (ej_var 3) aj_nil) (by decide +kernel)))))))
abbrev N_corners : List Str := ["cls"]
theorem S_corners : FnScope ["cls"] ["cls"] (defScope (top 44)) := ⟨rfl, rfl, rfl, by decide +kernel, rfl, by decide +kernel, by decide +kernel⟩
theorem c_corners (T : Txt K mg) (hf : mg "corners" = some (.ref (He.ga K "corners"))) (F : FnP K "corners" 44) (c_check_class : CalM P w K mg base 5 "check_class" 1 m_check_class) (c_corners_of : CalM P w K mg base 2 "corners_of" 1 m_corners_of) : CalM P w K mg base 6 "corners" 1 m_corners := by
  obtain ⟨fd, F⟩ := F
  refine cal_ok false (k := 5) hf F S_corners (fun _ _ _ _ _ _ us hl => match us, hl with | [_], _ => rfl) (fun cdv A outer s H E hr => ?_)
  exact (ssj_cons (sj_expr (ej_call (c_check_class.mono (by decide)) hr (aj_cons (ej_var 0) aj_nil)))
    (ssj_one (sj_ret (ej_call (c_corners_of.mono (by decide)) hr (aj_cons (ej_var 0) aj_nil)))))
abbrev N_is_fraction : List Str := ["value"]
theorem S_is_fraction : FnScope ["value"] ["value"] (defScope (top 23)) := ⟨rfl, rfl, rfl, by decide +kernel, rfl, by decide +kernel, by decide +kernel⟩
theorem c_is_fraction (T : Txt K mg) (hf : mg "is_fraction" = some (.ref (He.ga K "is_fraction"))) (F : FnP K "is_fraction" 23) (c_is_number : CalM P w K mg base 1 "is_number" 1 m_is_number) (c_is_row : CalM P w K mg base 1 "is_row" 2 m_is_row) : CalM P w K mg base 2 "is_fraction" 1 m_is_fraction := by
  obtain ⟨fd, F⟩ := F
  refine cal_ok false (k := 1) hf F S_is_fraction (fun _ _ _ _ _ _ us hl => match us, hl with | [_], _ => rfl) (fun cdv A outer s H E hr => ?_)
  exact (ssj_cons (sj_if (tj_w (wj_or (tj_not (tj_tru (ej_call (c_is_row.mono (by decide)) hr (aj_cons ej_int (aj_cons (ej_var 0) aj_nil))))) (wj_or (tj_not (tj_tru (ej_call (c_is_number.mono (by decide)) hr (aj_cons (ej_item (ej_var 0) ej_int) aj_nil)))) (wj_or1 (tj_not (tj_tru (ej_call (c_is_number.mono (by decide)) hr (aj_cons (ej_item (ej_var 0) ej_int) aj_nil)))))))) (ssj_one (sj_ret ej_bl)) ssj_nil)
    (ssj_one (sj_ret (ej_and (ej_cmp op_gt qGt (ej_item (ej_var 0) ej_int) ej_int) (ej_one (ej_cmp (op_eqP (hu200 hr)) oEq_ok (ej_bif cr_gcd oGcd_ok T.g_gcd (aj_cons (ej_item (ej_var 0) ej_int) (aj_cons (ej_item (ej_var 0) ej_int) aj_nil))) ej_int))))))
abbrev N_is_from_zero : List Str := ["value"]
theorem S_is_from_zero : FnScope ["value"] ["value"] (defScope (top 25)) := ⟨rfl, rfl, rfl, by decide +kernel, rfl, by decide +kernel, by decide +kernel⟩
theorem c_is_from_zero (T : Txt K mg) (hf : mg "is_from_zero" = some (.ref (He.ga K "is_from_zero"))) (F : FnP K "is_from_zero" 25) (c_is_fraction : CalM P w K mg base 2 "is_fraction" 1 m_is_fraction) : CalM P w K mg base 3 "is_from_zero" 1 m_is_from_zero := by
  obtain ⟨fd, F⟩ := F
  refine cal_ok false (k := 2) hf F S_is_from_zero (fun _ _ _ _ _ _ us hl => match us, hl with | [_], _ => rfl) (fun cdv A outer s H E hr => ?_)
  exact (ssj_one (sj_ret (ej_and (ej_call (c_is_fraction.mono (by decide)) hr (aj_cons (ej_var 0) aj_nil)) (ej_one (ej_cmp op_ge qGe (ej_item (ej_var 0) ej_int) ej_int)))))
abbrev N_check_readings : List Str := ["clocks", "readings", "reading"]
theorem S_check_readings : FnScope ["clocks", "readings", "reading"] ["clocks", "readings"] (defScope (top 31)) := ⟨rfl, rfl, rfl, by decide +kernel, rfl, by decide +kernel, by decide +kernel⟩
theorem c_check_readings (T : Txt K mg) (hf : mg "check_readings" = some (.ref (He.ga K "check_readings"))) (F : FnP K "check_readings" 31) (c_is_from_zero : CalM P w K mg base 3 "is_from_zero" 1 m_is_from_zero) (c_is_row : CalM P w K mg base 1 "is_row" 2 m_is_row) : CalM P w K mg base 4 "check_readings" 2 m_check_readings := by
  obtain ⟨fd, F⟩ := F
  refine cal_ok false (k := 3) hf F S_check_readings (fun _ _ _ _ _ _ us hl => match us, hl with | [_, _], _ => rfl) (fun cdv A outer s H E hr => ?_)
  exact (ssj_one (sj_if (tj_w (wj_or (tj_not (tj_tru (ej_call (c_is_row.mono (by decide)) hr (aj_cons (ej_var 0) (aj_cons (ej_var 1) aj_nil))))) (wj_or1 (tj_not (tj_tru (ej_bi (cr_all rfl) oAll_ok T.n_all (aj_cons (ej_lc (own := [("reading", 2)]) rfl S_check_readings.nd (ij_seq (ej_var 1)) (blkOk_by (N := N_check_readings) (sc := defScope (top 31)) (by decide +kernel)) (by decide) (fun _ _ _ _ _ => (gj_nm 2 S_check_readings.nd)) (fun _ _ _ _ _ => tsj_nil) (fun _ _ _ _ _ => (ej_call (c_is_from_zero.mono (by decide)) hr (aj_cons (ej_var 2) aj_nil)))) aj_nil) (by decide +kernel))))))) (ssj_one sj_never) ssj_nil))
abbrev N_reduced : List Str := ["top", "bottom", "common"]
theorem S_reduced : FnScope ["top", "bottom", "common"] ["top", "bottom"] (defScope (top 16)) := ⟨rfl, rfl, rfl, by decide +kernel, rfl, by decide +kernel, by decide +kernel⟩
theorem c_reduced (T : Txt K mg) (hf : mg "reduced" = some (.ref (He.ga K "reduced"))) (F : FnP K "reduced" 16)  : CalM P w K mg base 1 "reduced" 2 m_reduced := by
  obtain ⟨fd, F⟩ := F
  refine cal_ok false (k := 0) hf F S_reduced (fun _ _ _ _ _ _ us hl => match us, hl with | [_, _], _ => rfl) (fun cdv A outer s H E hr => ?_)
  exact (ssj_cons (sj_set (i := 2) S_reduced.nd (ej_bif cr_gcd oGcd_ok T.g_gcd (aj_cons (ej_var 0) (aj_cons (ej_var 1) aj_nil))))
    (ssj_cons (sj_if (tj_cmp op_lt qLt (ej_var 1) ej_int) (ssj_one (sj_set (i := 2) S_reduced.nd (ej_neg (ej_var 2)))) ssj_nil)
    (ssj_one (sj_ret (ej_tup (aj_cons (ej_div (ej_var 0) (ej_var 2)) (aj_cons (ej_div (ej_var 1) (ej_var 2)) aj_nil)))))))
abbrev N_difference_of : List Str := ["one", "other"]
theorem S_difference_of : FnScope ["one", "other"] ["one", "other"] (defScope (top 18)) := ⟨rfl, rfl, rfl, by decide +kernel, rfl, by decide +kernel, by decide +kernel⟩
theorem c_difference_of (T : Txt K mg) (hf : mg "difference_of" = some (.ref (He.ga K "difference_of"))) (F : FnP K "difference_of" 18) (c_reduced : CalM P w K mg base 1 "reduced" 2 m_reduced) : CalM P w K mg base 2 "difference_of" 2 m_difference_of := by
  obtain ⟨fd, F⟩ := F
  refine cal_ok false (k := 1) hf F S_difference_of (fun _ _ _ _ _ _ us hl => match us, hl with | [_, _], _ => rfl) (fun cdv A outer s H E hr => ?_)
  exact (ssj_one (sj_ret (ej_call (c_reduced.mono (by decide)) hr (aj_cons (ej_sub (ej_mul (ej_item (ej_var 0) ej_int) (ej_item (ej_var 1) ej_int)) (ej_mul (ej_item (ej_var 1) ej_int) (ej_item (ej_var 0) ej_int))) (aj_cons (ej_mul (ej_item (ej_var 0) ej_int) (ej_item (ej_var 1) ej_int)) aj_nil)))))
abbrev N_rises : List Str := ["rests", "ladder", "low", "high"]
theorem S_rises : FnScope ["rests", "ladder", "low", "high"] ["rests"] (defScope (top 42)) := ⟨rfl, rfl, rfl, by decide +kernel, rfl, by decide +kernel, by decide +kernel⟩
theorem c_rises (T : Txt K mg) (hf : mg "rises" = some (.ref (He.ga K "rises"))) (F : FnP K "rises" 42) (c_difference_of : CalM P w K mg base 2 "difference_of" 2 m_difference_of) : CalM P w K mg base 3 "rises" 1 m_rises := by
  obtain ⟨fd, F⟩ := F
  refine cal_ok false (k := 2) hf F S_rises (fun _ _ _ _ _ _ us hl => match us, hl with | [_], _ => rfl) (fun cdv A outer s H E hr => ?_)
  exact (ssj_cons (sj_set (i := 1) S_rises.nd (ej_add (ej_add (ej_lst (aj_cons (ej_gtup T.t_ZERO.1 T.t_ZERO.2) aj_nil)) (ej_var 0)) (ej_lst (aj_cons (ej_gtup T.t_UNIT.1 T.t_UNIT.2) aj_nil))))
    (ssj_one (sj_ret (ej_lc (own := [("low", 2), ("high", 3)]) rfl S_rises.nd (ij_zipM T.n_zip (ej_var 1) (ej_sl (ej_var 1) (oj_yes ej_int) oj_no)) (blkOk_by (N := N_rises) (sc := defScope (top 42)) (by decide +kernel)) (by decide) (fun _ _ _ _ _ => (gj_tp rfl (gjs_cons (gj_nm 2 S_rises.nd) (gjs_cons (gj_nm 3 S_rises.nd) gjs_nil)) (lCons_len (lCons_len lNil_len)))) (fun _ _ _ _ _ => tsj_nil) (fun _ _ _ _ _ => (ej_call (c_difference_of.mono (by decide)) hr (aj_cons (ej_var 3) (aj_cons (ej_var 2) aj_nil))))))))
abbrev N_rests_by : List Str := ["cls", "readings", "wholes", "order", "over", "rests", "reading", "number", "clock", "group", "more", "rise"]
theorem S_rests_by : FnScope ["cls", "readings", "wholes", "order", "over", "rests", "reading", "number", "clock", "group", "more", "rise"] ["cls", "readings"] (defScope (top 41)) := ⟨rfl, rfl, rfl, by decide +kernel, rfl, by decide +kernel, by decide +kernel⟩
theorem c_rests_by (T : Txt K mg) (hf : mg "rests_by" = some (.ref (He.ga K "rests_by"))) (F : FnP K "rests_by" 41) (c_difference_of : CalM P w K mg base 2 "difference_of" 2 m_difference_of) (c_rises : CalM P w K mg base 3 "rises" 1 m_rises) : CalM P w K mg base 4 "rests_by" 2 m_rests_by := by
  obtain ⟨fd, F⟩ := F
  refine cal_ok false (k := 3) hf F S_rests_by (fun _ _ _ _ _ _ us hl => match us, hl with | [_, _], _ => rfl) (fun cdv A outer s H E hr => ?_)
  exact (ssj_cons (sj_asg (ej_var 0) (gj_tp rfl (gjs_cons (gj_nm 2 S_rests_by.nd) (gjs_cons (gj_nm 3 S_rests_by.nd) gjs_nil)) (lCons_len (lCons_len lNil_len))))
    (ssj_cons (sj_set (i := 4) S_rests_by.nd (ej_lc (own := [("reading", 6), ("number", 7)]) rfl S_rests_by.nd (ij_zipM T.n_zip (ej_var 1) (ej_var 2)) (blkOk_by (N := N_rests_by) (sc := defScope (top 41)) (by decide +kernel)) (by decide) (fun _ _ _ _ _ => (gj_tp rfl (gjs_cons (gj_nm 6 S_rests_by.nd) (gjs_cons (gj_nm 7 S_rests_by.nd) gjs_nil)) (lCons_len (lCons_len lNil_len)))) (fun _ _ _ _ _ => tsj_nil) (fun _ _ _ _ _ => (ej_call (c_difference_of.mono (by decide)) hr (aj_cons (ej_var 6) (aj_cons (ej_tup (aj_cons (ej_var 7) (aj_cons ej_int aj_nil))) aj_nil))))))
    (ssj_cons (sj_if (tj_tru (ej_bi (cr_any rfl) oAny_ok T.n_any (aj_cons (ej_lc (own := [("clock", 8)]) rfl S_rests_by.nd (ij_seq (ej_item (ej_var 3) ej_int)) (blkOk_by (N := N_rests_by) (sc := defScope (top 41)) (by decide +kernel)) (by decide) (fun _ _ _ _ _ => (gj_nm 8 S_rests_by.nd)) (fun _ _ _ _ _ => tsj_nil) (fun _ _ _ _ _ => (ej_cmp (op_neP (hu200 hr)) oEq_ok (ej_item (ej_var 4) (ej_var 8)) (ej_gtup T.t_ZERO.1 T.t_ZERO.2)))) aj_nil) (by decide +kernel))) (ssj_one (sj_ret ej_non)) ssj_nil)
    (ssj_cons (sj_setLc (own := [("group", 9)]) rfl S_rests_by.nd (ij_seq (ej_sl (ej_var 3) (oj_yes ej_int) oj_no)) (blkOk_by (N := N_rests_by) (sc := defScope (top 41)) (by decide +kernel)) (by decide) (fun _ _ _ _ _ => (gj_nm 9 S_rests_by.nd)) (fun _ _ _ _ _ => tsj_nil) (fun _ _ _ _ _ => (ej_item (ej_var 4) (ej_item (ej_var 9) ej_int))))
    (ssj_cons (sj_if (tj_tru (ej_bi (cr_any rfl) oAny_ok T.n_any (aj_cons (ej_lc2 (own := [("group", 9), ("more", 10), ("clock", 8)]) (vs1 := [8]) rfl S_rests_by.nd (ij_zipM T.n_zip (ej_sl (ej_var 3) (oj_yes ej_int) oj_no) (ej_var 5)) (blkOk_by (N := N_rests_by) (sc := defScope (top 41)) (by decide +kernel)) (by decide) (by decide) (by decide) (fun _ _ _ _ _ => (gj_tp rfl (gjs_cons (gj_nm 9 S_rests_by.nd) (gjs_cons (gj_nm 10 S_rests_by.nd) gjs_nil)) (lCons_len (lCons_len lNil_len)))) (fun _ _ _ _ _ => tsj_nil) (fun _ _ _ _ _ => (ij_seq (ej_var 9))) (fun _ _ _ _ _ => (gj_nm 8 S_rests_by.nd)) (fun _ _ _ _ _ => tsj_nil) (fun _ _ _ _ _ => (ej_cmp (op_neP (hu200 hr)) oEq_ok (ej_item (ej_var 4) (ej_var 8)) (ej_var 10)))) aj_nil) (by decide +kernel))) (ssj_one (sj_ret ej_non)) ssj_nil)
    (ssj_cons (sj_if (tj_tru (ej_bi (cr_any rfl) oAny_ok T.n_any (aj_cons (ej_lc (own := [("rise", 11)]) rfl S_rests_by.nd (ij_seq (ej_call (c_rises.mono (by decide)) hr (aj_cons (ej_var 5) aj_nil))) (blkOk_by (N := N_rests_by) (sc := defScope (top 41)) (by decide +kernel)) (by decide) (fun _ _ _ _ _ => (gj_nm 11 S_rests_by.nd)) (fun _ _ _ _ _ => tsj_nil) (fun _ _ _ _ _ => (ej_cmp op_lt qLt (ej_item (ej_var 11) ej_int) ej_int))) aj_nil) (by decide +kernel))) (ssj_one (sj_ret ej_non)) ssj_nil)
    (ssj_one (sj_ret (ej_var 5)))))))))
abbrev N_parts : List Str := ["cls", "readings", "rests"]
theorem S_parts : FnScope ["cls", "readings", "rests"] ["cls", "readings"] (defScope (top 46)) := ⟨rfl, rfl, rfl, by decide +kernel, rfl, by decide +kernel, by decide +kernel⟩
theorem c_parts (T : Txt K mg) (hf : mg "parts" = some (.ref (He.ga K "parts"))) (F : FnP K "parts" 46) (c_check_class : CalM P w K mg base 5 "check_class" 1 m_check_class) (c_check_readings : CalM P w K mg base 4 "check_readings" 2 m_check_readings) (c_rests_by : CalM P w K mg base 4 "rests_by" 2 m_rests_by) (c_rises : CalM P w K mg base 3 "rises" 1 m_rises) : CalM P w K mg base 6 "parts" 2 m_parts := by
  obtain ⟨fd, F⟩ := F
  refine cal_ok false (k := 5) hf F S_parts (fun _ _ _ _ _ _ us hl => match us, hl with | [_, _], _ => rfl) (fun cdv A outer s H E hr => ?_)
  exact (ssj_cons (sj_expr (ej_call (c_check_class.mono (by decide)) hr (aj_cons (ej_var 0) aj_nil)))
    (ssj_cons (sj_expr (ej_call (c_check_readings.mono (by decide)) hr (aj_cons (ej_bi call_len oLen_ok T.n_len (aj_cons (ej_item (ej_var 0) ej_int) aj_nil) (by decide +kernel)) (aj_cons (ej_var 1) aj_nil))))
    (ssj_cons (sj_set (i := 2) S_parts.nd (ej_call (c_rests_by.mono (by decide)) hr (aj_cons (ej_var 0) (aj_cons (ej_var 1) aj_nil))))
    (ssj_cons (sj_if (tj_cmp op_isN oIs_ok (ej_var 2) ej_non) (ssj_one (sj_ret ej_non)) ssj_nil)
    (ssj_one (sj_ret (ej_ty call_tuple_of oTupleOf_ok T.n_tuple (aj_cons (ej_rev (ej_call (c_rises.mono (by decide)) hr (aj_cons (ej_var 2) aj_nil))) aj_nil) (by decide +kernel))))))))
abbrev N_sum_of : List Str := ["one", "other"]
theorem S_sum_of : FnScope ["one", "other"] ["one", "other"] (defScope (top 17)) := ⟨rfl, rfl, rfl, by decide +kernel, rfl, by decide +kernel, by decide +kernel⟩
theorem c_sum_of (T : Txt K mg) (hf : mg "sum_of" = some (.ref (He.ga K "sum_of"))) (F : FnP K "sum_of" 17) (c_reduced : CalM P w K mg base 1 "reduced" 2 m_reduced) : CalM P w K mg base 2 "sum_of" 2 m_sum_of := by
  obtain ⟨fd, F⟩ := F
  refine cal_ok false (k := 1) hf F S_sum_of (fun _ _ _ _ _ _ us hl => match us, hl with | [_, _], _ => rfl) (fun cdv A outer s H E hr => ?_)
  exact (ssj_one (sj_ret (ej_call (c_reduced.mono (by decide)) hr (aj_cons (ej_add (ej_mul (ej_item (ej_var 0) ej_int) (ej_item (ej_var 1) ej_int)) (ej_mul (ej_item (ej_var 1) ej_int) (ej_item (ej_var 0) ej_int))) (aj_cons (ej_mul (ej_item (ej_var 0) ej_int) (ej_item (ej_var 1) ej_int)) aj_nil)))))
abbrev N_total_of : List Str := ["row", "total", "member"]
theorem S_total_of : FnScope ["row", "total", "member"] ["row"] (defScope (top 19)) := ⟨rfl, rfl, rfl, by decide +kernel, rfl, by decide +kernel, by decide +kernel⟩
theorem c_total_of (T : Txt K mg) (hf : mg "total_of" = some (.ref (He.ga K "total_of"))) (F : FnP K "total_of" 19) (c_sum_of : CalM P w K mg base 2 "sum_of" 2 m_sum_of) : CalM P w K mg base 3 "total_of" 1 m_total_of := by
  obtain ⟨fd, F⟩ := F
  refine cal_ok false (k := 2) hf F S_total_of (fun _ _ _ _ _ _ us hl => match us, hl with | [_], _ => rfl) (fun cdv A outer s H E hr => ?_)
  exact (ssj_cons (sj_set (i := 1) S_total_of.nd (ej_gtup T.t_ZERO.1 T.t_ZERO.2))
    (ssj_cons (sj_for PassesOwn.never rfl (ij_seq (ej_var 0)) (gj_nm 2 S_total_of.nd) (ssj_one (sj_set (i := 1) S_total_of.nd (ej_call (c_sum_of.mono (by decide)) hr (aj_cons (ej_var 1) (aj_cons (ej_var 2) aj_nil))))))
    (ssj_one (sj_ret (ej_var 1)))))
abbrev N_are_fractions : List Str := ["value", "member"]
theorem S_are_fractions : FnScope ["value", "member"] ["value"] (defScope (top 24)) := ⟨rfl, rfl, rfl, by decide +kernel, rfl, by decide +kernel, by decide +kernel⟩
theorem c_are_fractions (T : Txt K mg) (hf : mg "are_fractions" = some (.ref (He.ga K "are_fractions"))) (F : FnP K "are_fractions" 24) (c_is_fraction : CalM P w K mg base 2 "is_fraction" 1 m_is_fraction) : CalM P w K mg base 3 "are_fractions" 1 m_are_fractions := by
  obtain ⟨fd, F⟩ := F
  refine cal_ok false (k := 2) hf F S_are_fractions (fun _ _ _ _ _ _ us hl => match us, hl with | [_], _ => rfl) (fun cdv A outer s H E hr => ?_)
  exact (ssj_one (sj_ret (ej_and (ej_isi "tuple" (by decide +kernel) T.n_isinstance T.n_tuple (ej_var 0) (by decide +kernel)) (ej_one (ej_bi (cr_all rfl) oAll_ok T.n_all (aj_cons (ej_lc (own := [("member", 1)]) rfl S_are_fractions.nd (ij_seq (ej_var 0)) (blkOk_by (N := N_are_fractions) (sc := defScope (top 24)) (by decide +kernel)) (by decide) (fun _ _ _ _ _ => (gj_nm 1 S_are_fractions.nd)) (fun _ _ _ _ _ => tsj_nil) (fun _ _ _ _ _ => (ej_call (c_is_fraction.mono (by decide)) hr (aj_cons (ej_var 1) aj_nil)))) aj_nil) (by decide +kernel))))))
abbrev N_are_weights : List Str := ["value", "member"]
theorem S_are_weights : FnScope ["value", "member"] ["value"] (defScope (top 26)) := ⟨rfl, rfl, rfl, by decide +kernel, rfl, by decide +kernel, by decide +kernel⟩
theorem c_are_weights (T : Txt K mg) (hf : mg "are_weights" = some (.ref (He.ga K "are_weights"))) (F : FnP K "are_weights" 26) (c_are_fractions : CalM P w K mg base 3 "are_fractions" 1 m_are_fractions) (c_total_of : CalM P w K mg base 3 "total_of" 1 m_total_of) : CalM P w K mg base 4 "are_weights" 1 m_are_weights := by
  obtain ⟨fd, F⟩ := F
  refine cal_ok false (k := 3) hf F S_are_weights (fun _ _ _ _ _ _ us hl => match us, hl with | [_], _ => rfl) (fun cdv A outer s H E hr => ?_)
  exact (ssj_cons (sj_if (tj_w (wj_or (tj_not (tj_tru (ej_call (c_are_fractions.mono (by decide)) hr (aj_cons (ej_var 0) aj_nil)))) (wj_or1 (tj_tru (ej_bi (cr_any rfl) oAny_ok T.n_any (aj_cons (ej_lc (own := [("member", 1)]) rfl S_are_weights.nd (ij_seq (ej_var 0)) (blkOk_by (N := N_are_weights) (sc := defScope (top 26)) (by decide +kernel)) (by decide) (fun _ _ _ _ _ => (gj_nm 1 S_are_weights.nd)) (fun _ _ _ _ _ => tsj_nil) (fun _ _ _ _ _ => (ej_cmp op_lt qLt (ej_item (ej_var 1) ej_int) ej_int))) aj_nil) (by decide +kernel)))))) (ssj_one (sj_ret ej_bl)) ssj_nil)
    (ssj_one (sj_ret (ej_cmp (op_eqP (hu200 hr)) oEq_ok (ej_call (c_total_of.mono (by decide)) hr (aj_cons (ej_var 0) aj_nil)) (ej_gtup T.t_UNIT.1 T.t_UNIT.2)))))
abbrev N_check_weights : List Str := ["cls", "weights"]
theorem S_check_weights : FnScope ["cls", "weights"] ["cls", "weights"] (defScope (top 48)) := ⟨rfl, rfl, rfl, by decide +kernel, rfl, by decide +kernel, by decide +kernel⟩
theorem c_check_weights (T : Txt K mg) (hf : mg "check_weights" = some (.ref (He.ga K "check_weights"))) (F : FnP K "check_weights" 48) (c_are_weights : CalM P w K mg base 4 "are_weights" 1 m_are_weights) : CalM P w K mg base 5 "check_weights" 2 m_check_weights := by
  obtain ⟨fd, F⟩ := F
  refine cal_ok false (k := 4) hf F S_check_weights (fun _ _ _ _ _ _ us hl => match us, hl with | [_, _], _ => rfl) (fun cdv A outer s H E hr => ?_)
  exact (ssj_one (sj_if (tj_w (wj_or (tj_not (tj_tru (ej_call (c_are_weights.mono (by decide)) hr (aj_cons (ej_var 1) aj_nil)))) (wj_or1 (tj_cmp (op_neP (hu200 hr)) oEq_ok (ej_bi call_len oLen_ok T.n_len (aj_cons (ej_var 1) aj_nil) (by decide +kernel)) (ej_bi call_len oLen_ok T.n_len (aj_cons (ej_item (ej_var 0) ej_int) aj_nil) (by decide +kernel)))))) (ssj_one sj_never) ssj_nil))
abbrev N_readings_at : List Str := ["cls", "rests", "wholes", "order", "readings", "group", "more", "clock", "number"]
theorem S_readings_at : FnScope ["cls", "rests", "wholes", "order", "readings", "group", "more", "clock", "number"] ["cls", "rests"] (defScope (top 38)) := ⟨rfl, rfl, rfl, by decide +kernel, rfl, by decide +kernel, by decide +kernel⟩
theorem c_readings_at (T : Txt K mg) (hf : mg "readings_at" = some (.ref (He.ga K "readings_at"))) (F : FnP K "readings_at" 38) (c_sum_of : CalM P w K mg base 2 "sum_of" 2 m_sum_of) : CalM P w K mg base 3 "readings_at" 2 m_readings_at := by
  obtain ⟨fd, F⟩ := F
  refine cal_ok false (k := 2) hf F S_readings_at (fun _ _ _ _ _ _ us hl => match us, hl with | [_, _], _ => rfl) (fun cdv A outer s H E hr => ?_)
  exact (ssj_cons (sj_asg (ej_var 0) (gj_tp rfl (gjs_cons (gj_nm 2 S_readings_at.nd) (gjs_cons (gj_nm 3 S_readings_at.nd) gjs_nil)) (lCons_len (lCons_len lNil_len))))
    (ssj_cons (sj_setLcC (own := [("number", 8)]) rfl S_readings_at.nd (ij_seq (ej_var 2)) (blkOk_by (N := N_readings_at) (sc := defScope (top 38)) (by decide +kernel)) (by decide) (fun _ _ _ _ _ => (gj_nm 8 S_readings_at.nd)) (fun _ _ _ _ _ => tsj_nil) (fun _ _ _ _ _ => (ej_tup (aj_cons (ej_var 8) (aj_cons ej_int aj_nil)))))
    (ssj_cons (sj_forZ PassesOwn.never rfl (ij_zipC T.n_zip (ej_sl (ej_var 3) (oj_yes ej_int) oj_no) (ej_var 1)) (gj_tp rfl (gjs_cons (gj_nm 5 S_readings_at.nd) (gjs_cons (gj_nm 6 S_readings_at.nd) gjs_nil)) (lCons_len (lCons_len lNil_len))) (ssj_one (sj_for PassesOwn.never rfl (ij_seq (ej_var 5)) (gj_nm 7 S_readings_at.nd) (ssj_one (sj_sub (ej_call (c_sum_of.mono (by decide)) hr (aj_cons (ej_item (ej_var 4) (ej_var 7)) (aj_cons (ej_var 6) aj_nil))) (ej_var 4) (ej_var 7))))))
    (ssj_one (sj_ret (ej_ty call_tuple_of oTupleOf_ok T.n_tuple (aj_cons (ej_var 4) aj_nil) (by decide +kernel)))))))
abbrev N_point : List Str := ["cls", "weights", "rests", "weight"]
theorem S_point : FnScope ["cls", "weights", "rests", "weight"] ["cls", "weights"] (defScope (top 47)) := ⟨rfl, rfl, rfl, by decide +kernel, rfl, by decide +kernel, by decide +kernel⟩
theorem c_point (T : Txt K mg) (hf : mg "point" = some (.ref (He.ga K "point"))) (F : FnP K "point" 47) (c_check_class : CalM P w K mg base 5 "check_class" 1 m_check_class) (c_check_weights : CalM P w K mg base 5 "check_weights" 2 m_check_weights) (c_readings_at : CalM P w K mg base 3 "readings_at" 2 m_readings_at) (c_sum_of : CalM P w K mg base 2 "sum_of" 2 m_sum_of) : CalM P w K mg base 6 "point" 2 m_point := by
  obtain ⟨fd, F⟩ := F
  refine cal_ok false (k := 5) hf F S_point (fun _ _ _ _ _ _ us hl => match us, hl with | [_, _], _ => rfl) (fun cdv A outer s H E hr => ?_)
  exact (ssj_cons (sj_expr (ej_call (c_check_class.mono (by decide)) hr (aj_cons (ej_var 0) aj_nil)))
    (ssj_cons (sj_expr (ej_call (c_check_weights.mono (by decide)) hr (aj_cons (ej_var 0) (aj_cons (ej_var 1) aj_nil))))
    (ssj_cons (sj_set (i := 2) S_point.nd (ej_lstC (aj_cons (ej_item (ej_var 1) (ej_neg ej_int)) aj_nil)))
    (ssj_cons (sj_for PassesOwn.never rfl (ij_rev T.n_reversed (ej_sl (ej_var 1) (oj_yes ej_int) (oj_yes (ej_neg ej_int)))) (gj_nm 3 S_point.nd) (ssj_one (sj_app (ej_var 2) (ej_call (c_sum_of.mono (by decide)) hr (aj_cons (ej_item (ej_var 2) (ej_neg ej_int)) (aj_cons (ej_var 3) aj_nil))))))
    (ssj_one (sj_ret (ej_call (c_readings_at.mono (by decide)) hr (aj_cons (ej_var 0) (aj_cons (ej_var 2) aj_nil)))))))))
abbrev N__law_roll : List Str := ["dice", "most", "found", "one", "two"]
theorem S__law_roll : FnScope ["dice", "most", "found", "one", "two"] ["dice", "most"] (defScope (top 51)) := ⟨rfl, rfl, rfl, by decide +kernel, rfl, by decide +kernel, by decide +kernel⟩
theorem c__law_roll (T : Txt K mg) (hf : mg "_law_roll" = some (.ref (He.ga K "_law_roll"))) (F : FnP K "_law_roll" 51)  : CalM P w K mg base 1 "_law_roll" 2 m__law_roll := by
  obtain ⟨fd, F⟩ := F
  refine cal_ok false (k := 0) hf F S__law_roll (fun _ _ _ _ _ _ us hl => match us, hl with | [_, _], _ => rfl) (fun cdv A outer s H E hr => ?_)
  exact (ssj_cons (sj_if (tj_cmp op_gt qGt (ej_item (ej_var 0) ej_int) ej_int) (ssj_cons (sj_set (i := 2) S__law_roll.nd (ej_mod (ej_ty call_int1 oInt_ok T.n_int (aj_cons (ej_item (ej_var 0) ej_int) aj_nil) (by decide +kernel)) (ej_var 1)))
    (ssj_cons (sj_sub (ej_div (ej_item (ej_var 0) ej_int) (ej_var 1)) (ej_var 0) ej_int)
    (ssj_one (sj_ret (ej_var 2))))) ssj_nil)
    (ssj_cons (sj_sub (ej_add (ej_item (ej_var 0) ej_int) ej_int) (ej_var 0) ej_int)
    (ssj_cons (sj_set (i := 3) S__law_roll.nd (ej_mod (ej_ty call_int1 oInt_ok T.n_int (aj_cons (ej_add (ej_item (ej_var 0) ej_int) (ej_mul ej_int (ej_item (ej_var 0) ej_int))) aj_nil) (by decide +kernel)) ej_int))
    (ssj_cons (sj_set (i := 4) S__law_roll.nd (ej_add (ej_mul (ej_mod (ej_ty call_int1 oInt_ok T.n_int (aj_cons (ej_add (ej_mul (ej_var 3) (ej_var 3)) (ej_mul ej_int (ej_item (ej_var 0) ej_int))) aj_nil) (by decide +kernel)) ej_int) ej_int) (ej_var 3)))
    (ssj_one (sj_ret (ej_mod (ej_ty call_int1 oInt_ok T.n_int (aj_cons (ej_div (ej_var 4) ej_int) aj_nil) (by decide +kernel)) (ej_var 1))))))))
abbrev N__law_pick : List Str := ["dice", "items"]
theorem S__law_pick : FnScope ["dice", "items"] ["dice", "items"] (defScope (top 52)) := ⟨rfl, rfl, rfl, by decide +kernel, rfl, by decide +kernel, by decide +kernel⟩
theorem c__law_pick (T : Txt K mg) (hf : mg "_law_pick" = some (.ref (He.ga K "_law_pick"))) (F : FnP K "_law_pick" 52) (c__law_roll : CalM P w K mg base 1 "_law_roll" 2 m__law_roll) : CalM P w K mg base 2 "_law_pick" 2 m__law_pick := by
  obtain ⟨fd, F⟩ := F
  refine cal_ok false (k := 1) hf F S__law_pick (fun _ _ _ _ _ _ us hl => match us, hl with | [_, _], _ => rfl) (fun cdv A outer s H E hr => ?_)
  exact (ssj_one (sj_ret (ej_item (ej_var 1) (ej_call (c__law_roll.mono (by decide)) hr (aj_cons (ej_var 0) (aj_cons (ej_bi call_len oLen_ok T.n_len (aj_cons (ej_var 1) aj_nil) (by decide +kernel)) aj_nil))))))
abbrev N__law_co_class : List Str := ["dice", "clocks", "wholes", "ranks", "order", "rank", "at", "whole"]
theorem S__law_co_class : FnScope ["dice", "clocks", "wholes", "ranks", "order", "rank", "at", "whole"] ["dice", "clocks"] (defScope (top 53)) := ⟨rfl, rfl, rfl, by decide +kernel, rfl, by decide +kernel, by decide +kernel⟩
theorem c__law_co_class (T : Txt K mg) (hf : mg "_law_co_class" = some (.ref (He.ga K "_law_co_class"))) (F : FnP K "_law_co_class" 53) (c__law_pick : CalM P w K mg base 2 "_law_pick" 2 m__law_pick) (c__law_roll : CalM P w K mg base 1 "_law_roll" 2 m__law_roll) : CalM P w K mg base 3 "_law_co_class" 2 m__law_co_class := by
  obtain ⟨fd, F⟩ := F
  refine cal_ok false (k := 2) hf F S__law_co_class (fun _ _ _ _ _ _ us hl => match us, hl with | [_, _], _ => rfl) (fun cdv A outer s H E hr => ?_)
  exact (ssj_cons (sj_set (i := 2) S__law_co_class.nd (ej_ty call_tuple_of oTupleOf_ok T.n_tuple (aj_cons (ej_lc (own := [("at", 6)]) rfl S__law_co_class.nd (ij_rg1 T.n_range (ej_var 1)) (blkOk_by (N := N__law_co_class) (sc := defScope (top 53)) (by decide +kernel)) (by decide) (fun _ _ _ _ _ => (gj_nm 6 S__law_co_class.nd)) (fun _ _ _ _ _ => tsj_nil) (fun _ _ _ _ _ => (ej_call (c__law_pick.mono (by decide)) hr (aj_cons (ej_var 0) (aj_cons (ej_lst (aj_cons ej_int (aj_cons ej_int (aj_cons ej_int (aj_cons ej_int (aj_cons ej_int (aj_cons ej_int (aj_cons (ej_call (c__law_roll.mono (by decide)) hr (aj_cons (ej_var 0) (aj_cons ej_int aj_nil))) aj_nil)))))))) aj_nil))))) aj_nil) (by decide +kernel)))
    (ssj_cons (sj_set (i := 3) S__law_co_class.nd (ej_lc (own := [("whole", 7)]) rfl S__law_co_class.nd (ij_seq (ej_var 2)) (blkOk_by (N := N__law_co_class) (sc := defScope (top 53)) (by decide +kernel)) (by decide) (fun _ _ _ _ _ => (gj_nm 7 S__law_co_class.nd)) (fun _ _ _ _ _ => tsj_nil) (fun _ _ _ _ _ => (ej_if (tj_cmp (op_eqP (hu200 hr)) oEq_ok (ej_var 7) ej_int) ej_int (ej_call (c__law_roll.mono (by decide)) hr (aj_cons (ej_var 0) (aj_cons (ej_add (ej_var 1) ej_int) aj_nil)))))))
    (ssj_cons (sj_set (i := 4) S__law_co_class.nd (ej_lstC (aj_cons (ej_ty call_tuple_of oTupleOf_ok T.n_tuple (aj_cons (ej_lc (own := [("at", 6)]) rfl S__law_co_class.nd (ij_rg1 T.n_range (ej_var 1)) (blkOk_by (N := N__law_co_class) (sc := defScope (top 53)) (by decide +kernel)) (by decide) (fun _ _ _ _ _ => (gj_nm 6 S__law_co_class.nd)) (fun _ _ _ _ _ => (tsj_one (tj_cmp (op_eqP (hu200 hr)) oEq_ok (ej_item (ej_var 3) (ej_var 6)) ej_int))) (fun _ _ _ _ _ => (ej_var 6))) aj_nil) (by decide +kernel)) aj_nil)))
    (ssj_cons (sj_for PassesOwn.never rfl (ij_rg2 T.n_range ej_int (ej_add (ej_var 1) ej_int)) (gj_nm 5 S__law_co_class.nd) (ssj_one (sj_if (tj_cmp (op_inP (hu200 hr)) oIn_ok (ej_var 5) (ej_var 3)) (ssj_one (sj_app (ej_var 4) (ej_ty call_tuple_of oTupleOf_ok T.n_tuple (aj_cons (ej_lc (own := [("at", 6)]) rfl S__law_co_class.nd (ij_rg1 T.n_range (ej_var 1)) (blkOk_by (N := N__law_co_class) (sc := defScope (top 53)) (by decide +kernel)) (by decide) (fun _ _ _ _ _ => (gj_nm 6 S__law_co_class.nd)) (fun _ _ _ _ _ => (tsj_one (tj_cmp (op_eqP (hu200 hr)) oEq_ok (ej_item (ej_var 3) (ej_var 6)) (ej_var 5)))) (fun _ _ _ _ _ => (ej_var 6))) aj_nil) (by decide +kernel)))) ssj_nil)))
    (ssj_one (sj_ret (ej_tup (aj_cons (ej_var 2) (aj_cons (ej_ty call_tuple_of oTupleOf_ok T.n_tuple (aj_cons (ej_var 4) aj_nil) (by decide +kernel)) aj_nil)))))))))
abbrev N__law_co_corners : List Str := ["cls", "wholes", "order", "found", "many", "up", "lot", "at", "whole"]
theorem S__law_co_corners : FnScope ["cls", "wholes", "order", "found", "many", "up", "lot", "at", "whole"] ["cls"] (defScope (top 54)) := ⟨rfl, rfl, rfl, by decide +kernel, rfl, by decide +kernel, by decide +kernel⟩
theorem c__law_co_corners (T : Txt K mg) (hf : mg "_law_co_corners" = some (.ref (He.ga K "_law_co_corners"))) (F : FnP K "_law_co_corners" 54)  : CalM P w K mg base 1 "_law_co_corners" 1 m__law_co_corners := by
  obtain ⟨fd, F⟩ := F
  refine cal_ok false (k := 0) hf F S__law_co_corners (fun _ _ _ _ _ _ us hl => match us, hl with | [_], _ => rfl) (fun cdv A outer s H E hr => ?_)
  exact (ssj_cons (sj_asg (ej_var 0) (gj_tp rfl (gjs_cons (gj_nm 1 S__law_co_corners.nd) (gjs_cons (gj_nm 2 S__law_co_corners.nd) gjs_nil)) (lCons_len (lCons_len lNil_len))))
    (ssj_cons (sj_set (i := 3) S__law_co_corners.nd (ej_lstC aj_nil))
    (ssj_cons (sj_for PassesOwn.never rfl (ij_rg1 T.n_range (ej_bi call_len oLen_ok T.n_len (aj_cons (ej_var 2) aj_nil) (by decide +kernel))) (gj_nm 4 S__law_co_corners.nd) (ssj_cons (sj_set (i := 5) S__law_co_corners.nd (ej_lstC aj_nil))
    (ssj_cons (sj_for PassesOwn.never rfl (ij_seq (ej_sl (ej_var 2) (oj_yes (ej_sub (ej_bi call_len oLen_ok T.n_len (aj_cons (ej_var 2) aj_nil) (by decide +kernel)) (ej_var 4))) oj_no)) (gj_nm 6 S__law_co_corners.nd) (ssj_one (sj_extT (ej_var 5) (ej_var 6))))
    (ssj_one (sj_app (ej_var 3) (ej_ty call_tuple_of oTupleOf_ok T.n_tuple (aj_cons (ej_lc (own := [("at", 7), ("whole", 8)]) rfl S__law_co_corners.nd (ij_enumV T.n_enumerate (ej_var 1)) (blkOk_by (N := N__law_co_corners) (sc := defScope (top 54)) (by decide +kernel)) (by decide) (fun _ _ _ _ _ => (gj_tp rfl (gjs_cons (gj_nm 7 S__law_co_corners.nd) (gjs_cons (gj_nm 8 S__law_co_corners.nd) gjs_nil)) (lCons_len (lCons_len lNil_len)))) (fun _ _ _ _ _ => tsj_nil) (fun _ _ _ _ _ => (ej_add (ej_var 8) (ej_ty call_int1 oInt_ok T.n_int (aj_cons (ej_cmp (op_inP (hu200 hr)) oIn_ok (ej_var 7) (ej_var 5)) aj_nil) (by decide +kernel))))) aj_nil) (by decide +kernel)))))))
    (ssj_one (sj_ret (ej_var 3))))))
abbrev N__law_co_some : List Str := ["dice", "many", "some", "at"]
theorem S__law_co_some : FnScope ["dice", "many", "some", "at"] ["dice", "many"] (defScope (top 56)) := ⟨rfl, rfl, rfl, by decide +kernel, rfl, by decide +kernel, by decide +kernel⟩
theorem c__law_co_some (T : Txt K mg) (hf : mg "_law_co_some" = some (.ref (He.ga K "_law_co_some"))) (F : FnP K "_law_co_some" 56) (c__law_pick : CalM P w K mg base 2 "_law_pick" 2 m__law_pick) (c__law_roll : CalM P w K mg base 1 "_law_roll" 2 m__law_roll) : CalM P w K mg base 3 "_law_co_some" 2 m__law_co_some := by
  obtain ⟨fd, F⟩ := F
  refine cal_ok false (k := 2) hf F S__law_co_some (fun _ _ _ _ _ _ us hl => match us, hl with | [_, _], _ => rfl) (fun cdv A outer s H E hr => ?_)
  exact (ssj_cons (sj_setLc (own := [("at", 3)]) rfl S__law_co_some.nd (ij_rg1 T.n_range (ej_var 1)) (blkOk_by (N := N__law_co_some) (sc := defScope (top 56)) (by decide +kernel)) (by decide) (fun _ _ _ _ _ => (gj_nm 3 S__law_co_some.nd)) (fun _ _ _ _ _ => tsj_nil) (fun _ _ _ _ _ => (ej_call (c__law_pick.mono (by decide)) hr (aj_cons (ej_var 0) (aj_cons (ej_lst (aj_cons ej_int (aj_cons ej_int (aj_cons ej_int (aj_cons ej_int (aj_cons ej_int (aj_cons ej_int (aj_cons ej_int (aj_cons (ej_pow ej_int ej_int) (aj_cons (ej_call (c__law_roll.mono (by decide)) hr (aj_cons (ej_var 0) (aj_cons ej_int aj_nil))) aj_nil)))))))))) aj_nil)))))
    (ssj_cons (sj_set (i := 3) S__law_co_some.nd (ej_call (c__law_roll.mono (by decide)) hr (aj_cons (ej_var 0) (aj_cons (ej_var 1) aj_nil))))
    (ssj_one (sj_ret (ej_add (ej_add (ej_sl (ej_var 2) oj_no (oj_yes (ej_var 3))) (ej_lst (aj_cons (ej_add (ej_item (ej_var 2) (ej_var 3)) ej_int) aj_nil))) (ej_sl (ej_var 2) (oj_yes (ej_add (ej_var 3) ej_int)) oj_no))))))
abbrev N__law_co_low : List Str := ["top", "bottom", "one", "other"]
theorem S__law_co_low : FnScope ["top", "bottom", "one", "other"] ["top", "bottom"] (defScope (top 55)) := ⟨rfl, rfl, rfl, by decide +kernel, rfl, by decide +kernel, by decide +kernel⟩
theorem c__law_co_low (T : Txt K mg) (hf : mg "_law_co_low" = some (.ref (He.ga K "_law_co_low"))) (F : FnP K "_law_co_low" 55)  : CalM P w K mg base 1 "_law_co_low" 2 m__law_co_low := by
  obtain ⟨fd, F⟩ := F
  refine cal_ok false (k := 0) hf F S__law_co_low (fun _ _ _ _ _ _ us hl => match us, hl with | [_, _], _ => rfl) (fun cdv A outer s H E hr => ?_)
  exact (ssj_cons (sj_par (i := 2) (j := 3) rfl S__law_co_low.nd (by decide) (aj_cons (ej_bi call_abs oAbs_ok T.n_abs (aj_cons (ej_var 0) aj_nil) (by decide +kernel)) (aj_cons (ej_var 1) aj_nil)))
    (ssj_cons (sj_while FUEL PassesOwn.never (tj_cmp op_gt qGt (ej_var 3) ej_int) (ssj_one (sj_par (i := 2) (j := 3) rfl S__law_co_low.nd (by decide) (aj_cons (ej_var 3) (aj_cons (ej_mod (ej_var 2) (ej_var 3)) aj_nil)))))
    (ssj_one (sj_ret (ej_tup (aj_cons (ej_div (ej_var 0) (ej_var 2)) (aj_cons (ej_div (ej_var 1) (ej_var 2)) aj_nil)))))))
abbrev N__law_co_told : List Str := ["tops", "bottom", "top"]
theorem S__law_co_told : FnScope ["tops", "bottom", "top"] ["tops", "bottom"] (defScope (top 59)) := ⟨rfl, rfl, rfl, by decide +kernel, rfl, by decide +kernel, by decide +kernel⟩
theorem c__law_co_told (T : Txt K mg) (hf : mg "_law_co_told" = some (.ref (He.ga K "_law_co_told"))) (F : FnP K "_law_co_told" 59) (c__law_co_low : CalM P w K mg base 1 "_law_co_low" 2 m__law_co_low) : CalM P w K mg base 2 "_law_co_told" 2 m__law_co_told := by
  obtain ⟨fd, F⟩ := F
  refine cal_ok false (k := 1) hf F S__law_co_told (fun _ _ _ _ _ _ us hl => match us, hl with | [_, _], _ => rfl) (fun cdv A outer s H E hr => ?_)
  exact (ssj_one (sj_ret (ej_ty call_tuple_of oTupleOf_ok T.n_tuple (aj_cons (ej_lc (own := [("top", 2)]) rfl S__law_co_told.nd (ij_seq (ej_var 0)) (blkOk_by (N := N__law_co_told) (sc := defScope (top 59)) (by decide +kernel)) (by decide) (fun _ _ _ _ _ => (gj_nm 2 S__law_co_told.nd)) (fun _ _ _ _ _ => tsj_nil) (fun _ _ _ _ _ => (ej_call (c__law_co_low.mono (by decide)) hr (aj_cons (ej_var 2) (aj_cons (ej_var 1) aj_nil))))) aj_nil) (by decide +kernel))))
abbrev N__law_co_tops : List Str := ["corners_here", "some", "found", "at", "number", "corner"]
theorem S__law_co_tops : FnScope ["corners_here", "some", "found", "at", "number", "corner"] ["corners_here", "some"] (defScope (top 58)) := ⟨rfl, rfl, rfl, by decide +kernel, rfl, by decide +kernel, by decide +kernel⟩
theorem c__law_co_tops (T : Txt K mg) (hf : mg "_law_co_tops" = some (.ref (He.ga K "_law_co_tops"))) (F : FnP K "_law_co_tops" 58)  : CalM P w K mg base 1 "_law_co_tops" 2 m__law_co_tops := by
  obtain ⟨fd, F⟩ := F
  refine cal_ok false (k := 0) hf F S__law_co_tops (fun _ _ _ _ _ _ us hl => match us, hl with | [_, _], _ => rfl) (fun cdv A outer s H E hr => ?_)
  exact (ssj_cons (sj_set (i := 2) S__law_co_tops.nd (ej_lstC aj_nil))
    (ssj_cons (sj_for PassesOwn.never rfl (ij_rg1 T.n_range (ej_bi call_len oLen_ok T.n_len (aj_cons (ej_item (ej_var 0) ej_int) aj_nil) (by decide +kernel))) (gj_nm 3 S__law_co_tops.nd) (ssj_one (sj_app (ej_var 2) (ej_bi (cr_sum rfl) oSum_ok T.n_sum (aj_cons (ej_lc (own := [("number", 4), ("corner", 5)]) rfl S__law_co_tops.nd (ij_zipM T.n_zip (ej_var 1) (ej_var 0)) (blkOk_by (N := N__law_co_tops) (sc := defScope (top 58)) (by decide +kernel)) (by decide) (fun _ _ _ _ _ => (gj_tp rfl (gjs_cons (gj_nm 4 S__law_co_tops.nd) (gjs_cons (gj_nm 5 S__law_co_tops.nd) gjs_nil)) (lCons_len (lCons_len lNil_len)))) (fun _ _ _ _ _ => tsj_nil) (fun _ _ _ _ _ => (ej_mul (ej_var 4) (ej_item (ej_var 5) (ej_var 3))))) aj_nil) (by decide +kernel)))))
    (ssj_one (sj_ret (ej_var 2)))))
abbrev N__law_co_parts : List Str := ["some", "number"]
theorem S__law_co_parts : FnScope ["some", "number"] ["some"] (defScope (top 57)) := ⟨rfl, rfl, rfl, by decide +kernel, rfl, by decide +kernel, by decide +kernel⟩
theorem c__law_co_parts (T : Txt K mg) (hf : mg "_law_co_parts" = some (.ref (He.ga K "_law_co_parts"))) (F : FnP K "_law_co_parts" 57) (c__law_co_low : CalM P w K mg base 1 "_law_co_low" 2 m__law_co_low) : CalM P w K mg base 2 "_law_co_parts" 1 m__law_co_parts := by
  obtain ⟨fd, F⟩ := F
  refine cal_ok false (k := 1) hf F S__law_co_parts (fun _ _ _ _ _ _ us hl => match us, hl with | [_], _ => rfl) (fun cdv A outer s H E hr => ?_)
  exact (ssj_one (sj_ret (ej_ty call_tuple_of oTupleOf_ok T.n_tuple (aj_cons (ej_lc (own := [("number", 1)]) rfl S__law_co_parts.nd (ij_seq (ej_var 0)) (blkOk_by (N := N__law_co_parts) (sc := defScope (top 57)) (by decide +kernel)) (by decide) (fun _ _ _ _ _ => (gj_nm 1 S__law_co_parts.nd)) (fun _ _ _ _ _ => tsj_nil) (fun _ _ _ _ _ => (ej_call (c__law_co_low.mono (by decide)) hr (aj_cons (ej_var 1) (aj_cons (ej_bi (cr_sum rfl) oSum_ok T.n_sum (aj_cons (ej_var 0) aj_nil) (by decide +kernel)) aj_nil))))) aj_nil) (by decide +kernel))))
abbrev N_order_of : List Str := ["one", "other", "left", "right"]
theorem S_order_of : FnScope ["one", "other", "left", "right"] ["one", "other"] (defScope (top 20)) := ⟨rfl, rfl, rfl, by decide +kernel, rfl, by decide +kernel, by decide +kernel⟩
theorem c_order_of (T : Txt K mg) (hf : mg "order_of" = some (.ref (He.ga K "order_of"))) (F : FnP K "order_of" 20)  : CalM P w K mg base 1 "order_of" 2 m_order_of := by
  obtain ⟨fd, F⟩ := F
  refine cal_ok false (k := 0) hf F S_order_of (fun _ _ _ _ _ _ us hl => match us, hl with | [_, _], _ => rfl) (fun cdv A outer s H E hr => ?_)
  exact (ssj_cons (sj_set (i := 2) S_order_of.nd (ej_mul (ej_item (ej_var 0) ej_int) (ej_item (ej_var 1) ej_int)))
    (ssj_cons (sj_set (i := 3) S_order_of.nd (ej_mul (ej_item (ej_var 1) ej_int) (ej_item (ej_var 0) ej_int)))
    (ssj_cons (sj_if (tj_cmp op_lt qLt (ej_var 2) (ej_var 3)) (ssj_one (sj_ret (ej_neg ej_int))) ssj_nil)
    (ssj_cons (sj_if (tj_cmp op_gt qGt (ej_var 2) (ej_var 3)) (ssj_one (sj_ret ej_int)) ssj_nil)
    (ssj_one (sj_ret ej_int))))))
abbrev N_check_low : List Str := ["readings", "reading"]
theorem S_check_low : FnScope ["readings", "reading"] ["readings"] (defScope (top 33)) := ⟨rfl, rfl, rfl, by decide +kernel, rfl, by decide +kernel, by decide +kernel⟩
theorem c_check_low (T : Txt K mg) (hf : mg "check_low" = some (.ref (He.ga K "check_low"))) (F : FnP K "check_low" 33) (c_order_of : CalM P w K mg base 1 "order_of" 2 m_order_of) : CalM P w K mg base 2 "check_low" 1 m_check_low := by
  obtain ⟨fd, F⟩ := F
  refine cal_ok false (k := 1) hf F S_check_low (fun _ _ _ _ _ _ us hl => match us, hl with | [_], _ => rfl) (fun cdv A outer s H E hr => ?_)
  exact (ssj_one (sj_if (tj_tru (ej_bi (cr_any rfl) oAny_ok T.n_any (aj_cons (ej_lc (own := [("reading", 1)]) rfl S_check_low.nd (ij_seq (ej_var 0)) (blkOk_by (N := N_check_low) (sc := defScope (top 33)) (by decide +kernel)) (by decide) (fun _ _ _ _ _ => (gj_nm 1 S_check_low.nd)) (fun _ _ _ _ _ => tsj_nil) (fun _ _ _ _ _ => (ej_cmp op_gt qGt (ej_call (c_order_of.mono (by decide)) hr (aj_cons (ej_var 1) (aj_cons (ej_tup (aj_cons (ej_gint T.i_MOST_NUMBER) (aj_cons ej_int aj_nil))) aj_nil))) ej_int))) aj_nil) (by decide +kernel))) (ssj_one sj_never) ssj_nil))
abbrev N_is_by : List Str := ["cls", "readings"]
theorem S_is_by : FnScope ["cls", "readings"] ["cls", "readings"] (defScope (top 40)) := ⟨rfl, rfl, rfl, by decide +kernel, rfl, by decide +kernel, by decide +kernel⟩
theorem c_is_by (T : Txt K mg) (hf : mg "is_by" = some (.ref (He.ga K "is_by"))) (F : FnP K "is_by" 40) (c_check_class : CalM P w K mg base 5 "check_class" 1 m_check_class) (c_check_low : CalM P w K mg base 2 "check_low" 1 m_check_low) (c_check_readings : CalM P w K mg base 4 "check_readings" 2 m_check_readings) (c_rests_by : CalM P w K mg base 4 "rests_by" 2 m_rests_by) : CalM P w K mg base 6 "is_by" 2 m_is_by := by
  obtain ⟨fd, F⟩ := F
  refine cal_ok false (k := 5) hf F S_is_by (fun _ _ _ _ _ _ us hl => match us, hl with | [_, _], _ => rfl) (fun cdv A outer s H E hr => ?_)
  exact (ssj_cons (sj_expr (ej_call (c_check_class.mono (by decide)) hr (aj_cons (ej_var 0) aj_nil)))
    (ssj_cons (sj_expr (ej_call (c_check_readings.mono (by decide)) hr (aj_cons (ej_bi call_len oLen_ok T.n_len (aj_cons (ej_item (ej_var 0) ej_int) aj_nil) (by decide +kernel)) (aj_cons (ej_var 1) aj_nil))))
    (ssj_cons (sj_expr (ej_call (c_check_low.mono (by decide)) hr (aj_cons (ej_var 1) aj_nil)))
    (ssj_one (sj_ret (ej_cmp op_notN oIsNot_ok (ej_call (c_rests_by.mono (by decide)) hr (aj_cons (ej_var 0) (aj_cons (ej_var 1) aj_nil))) ej_non))))))
abbrev N__law_own_parts : List Str := ["cls", "tops", "bottom", "wholes", "order", "rests", "found", "lot", "some", "many", "top", "at"]
theorem S__law_own_parts : FnScope ["cls", "tops", "bottom", "wholes", "order", "rests", "found", "lot", "some", "many", "top", "at"] ["cls", "tops", "bottom"] (defScope (top 60)) := ⟨rfl, rfl, rfl, by decide +kernel, rfl, by decide +kernel, by decide +kernel⟩
theorem c__law_own_parts (T : Txt K mg) (hf : mg "_law_own_parts" = some (.ref (He.ga K "_law_own_parts"))) (F : FnP K "_law_own_parts" 60)  : CalM P w K mg base 1 "_law_own_parts" 3 m__law_own_parts := by
  obtain ⟨fd, F⟩ := F
  refine cal_ok false (k := 0) hf F S__law_own_parts (fun _ _ _ _ _ _ us hl => match us, hl with | [_, _, _], _ => rfl) (fun cdv A outer s H E hr => ?_)
  exact (ssj_cons (sj_asg (ej_var 0) (gj_tp rfl (gjs_cons (gj_nm 3 S__law_own_parts.nd) (gjs_cons (gj_nm 4 S__law_own_parts.nd) gjs_nil)) (lCons_len (lCons_len lNil_len))))
    (ssj_cons (sj_par (i := 5) (j := 6) rfl S__law_own_parts.nd (by decide) (aj_cons (ej_lstC (aj_cons ej_int aj_nil)) (aj_cons (ej_lstC aj_nil) aj_nil)))
    (ssj_cons (sj_for PassesOwn.never rfl (ij_seq (ej_var 4)) (gj_nm 7 S__law_own_parts.nd) (ssj_cons (sj_setLc (own := [("at", 11)]) rfl S__law_own_parts.nd (ij_seq (ej_var 7)) (blkOk_by (N := N__law_own_parts) (sc := defScope (top 60)) (by decide +kernel)) (by decide) (fun _ _ _ _ _ => (gj_nm 11 S__law_own_parts.nd)) (fun _ _ _ _ _ => tsj_nil) (fun _ _ _ _ _ => (ej_sub (ej_item (ej_var 1) (ej_var 11)) (ej_mul (ej_item (ej_var 3) (ej_var 11)) (ej_var 2)))))
    (ssj_cons (sj_if (tj_w (wj_and (tj_cmp (op_neP (hu200 hr)) oEq_ok (ej_var 7) (ej_tup aj_nil)) (wj_and1 (tj_cmp (op_neP (hu200 hr)) oEq_ok (ej_var 8) (ej_rep (ej_lst (aj_cons (ej_item (ej_var 8) ej_int) aj_nil)) (ej_bi call_len oLen_ok T.n_len (aj_cons (ej_var 8) aj_nil) (by decide +kernel))))))) (ssj_one (sj_ret ej_non)) ssj_nil)
    (ssj_cons (sj_if (tj_w (wj_and (tj_cmp (op_neP (hu200 hr)) oEq_ok (ej_var 7) (ej_tup aj_nil)) (wj_and (tj_cmp (op_eqP (hu200 hr)) oEq_ok (ej_var 7) (ej_item (ej_var 4) ej_int)) (wj_and1 (tj_cmp (op_neP (hu200 hr)) oEq_ok (ej_item (ej_var 8) ej_int) ej_int))))) (ssj_one (sj_ret ej_non)) ssj_nil)
    (ssj_one (sj_if (tj_cmp (op_neP (hu200 hr)) oEq_ok (ej_var 7) (ej_item (ej_var 4) ej_int)) (ssj_one (sj_app (ej_var 5) (ej_item (ej_var 8) ej_int))) ssj_nil))))))
    (ssj_cons (sj_if (tj_w (wj_or (tj_cmp (op_neP (hu200 hr)) oEq_ok (ej_var 5) (ej_bi cr_sortedIT oSortedIT_ok T.n_sorted (aj_cons (ej_var 5) aj_nil) (by decide +kernel))) (wj_or1 (tj_cmp op_gt qGt (ej_item (ej_var 5) (ej_neg ej_int)) (ej_var 2))))) (ssj_one (sj_ret ej_non)) ssj_nil)
    (ssj_cons (sj_for PassesOwn.never rfl (ij_rg1 T.n_range (ej_bi call_len oLen_ok T.n_len (aj_cons (ej_var 5) aj_nil) (by decide +kernel))) (gj_nm 9 S__law_own_parts.nd) (ssj_cons (sj_set (i := 10) S__law_own_parts.nd (ej_if (tj_cmp (op_eqP (hu200 hr)) oEq_ok (ej_var 9) ej_int) (ej_var 2) (ej_item (ej_var 5) (ej_sub (ej_bi call_len oLen_ok T.n_len (aj_cons (ej_var 5) aj_nil) (by decide +kernel)) (ej_var 9)))))
    (ssj_one (sj_app (ej_var 6) (ej_sub (ej_var 10) (ej_item (ej_var 5) (ej_sub (ej_sub (ej_bi call_len oLen_ok T.n_len (aj_cons (ej_var 5) aj_nil) (by decide +kernel)) (ej_var 9)) ej_int)))))))
    (ssj_one (sj_ret (ej_var 6))))))))
abbrev N__law_near_right : List Str := ["dice", "cls", "tops", "bottom", "turn", "at", "more", "near", "due", "readings", "told", "number"]
theorem S__law_near_right : FnScope ["dice", "cls", "tops", "bottom", "turn", "at", "more", "near", "due", "readings", "told", "number"] ["dice", "cls", "tops", "bottom"] (defScope (top 61)) := ⟨rfl, rfl, rfl, by decide +kernel, rfl, by decide +kernel, by decide +kernel⟩
theorem c__law_near_right (T : Txt K mg) (hf : mg "_law_near_right" = some (.ref (He.ga K "_law_near_right"))) (F : FnP K "_law_near_right" 61) (c__law_co_low : CalM P w K mg base 1 "_law_co_low" 2 m__law_co_low) (c__law_co_told : CalM P w K mg base 2 "_law_co_told" 2 m__law_co_told) (c__law_own_parts : CalM P w K mg base 1 "_law_own_parts" 3 m__law_own_parts) (c__law_pick : CalM P w K mg base 2 "_law_pick" 2 m__law_pick) (c__law_roll : CalM P w K mg base 1 "_law_roll" 2 m__law_roll) (c_is_by : CalM P w K mg base 6 "is_by" 2 m_is_by) (c_parts : CalM P w K mg base 6 "parts" 2 m_parts) : CalM P w K mg base 7 "_law_near_right" 4 m__law_near_right := by
  obtain ⟨fd, F⟩ := F
  refine cal_ok false (k := 6) hf F S__law_near_right (fun _ _ _ _ _ _ us hl => match us, hl with | [_, _, _, _], _ => rfl) (fun cdv A outer s H E hr => ?_)
  exact (ssj_cons (sj_for PassesOwn.never rfl (ij_rg1 T.n_range ej_int) (gj_nm 4 S__law_near_right.nd) (ssj_cons (sj_par (i := 5) (j := 6) rfl S__law_near_right.nd (by decide) (aj_cons (ej_call (c__law_roll.mono (by decide)) hr (aj_cons (ej_var 0) (aj_cons (ej_bi call_len oLen_ok T.n_len (aj_cons (ej_var 2) aj_nil) (by decide +kernel)) aj_nil))) (aj_cons (ej_call (c__law_pick.mono (by decide)) hr (aj_cons (ej_var 0) (aj_cons (ej_lst (aj_cons ej_int (aj_cons (ej_neg ej_int) (aj_cons (ej_var 3) (aj_cons (ej_sub ej_int (ej_var 3)) (aj_cons (ej_call (c__law_roll.mono (by decide)) hr (aj_cons (ej_var 0) (aj_cons (ej_add (ej_var 3) ej_int) aj_nil))) aj_nil)))))) aj_nil))) aj_nil)))
    (ssj_cons (sj_set (i := 7) S__law_near_right.nd (ej_add (ej_add (ej_sl (ej_var 2) oj_no (oj_yes (ej_var 5))) (ej_lst (aj_cons (ej_bi (call_min2 rfl) oMin2_ok T.n_min (aj_cons (ej_mul ej_int (ej_var 3)) (aj_cons (ej_bi (call_max2 rfl) oMax2_ok T.n_max (aj_cons ej_int (aj_cons (ej_add (ej_item (ej_var 2) (ej_var 5)) (ej_var 6)) aj_nil)) (by decide +kernel)) aj_nil)) (by decide +kernel)) aj_nil))) (ej_sl (ej_var 2) (oj_yes (ej_add (ej_var 5) ej_int)) oj_no)))
    (ssj_cons (sj_par (i := 8) (j := 9) rfl S__law_near_right.nd (by decide) (aj_cons (ej_call (c__law_own_parts.mono (by decide)) hr (aj_cons (ej_var 1) (aj_cons (ej_var 7) (aj_cons (ej_var 3) aj_nil)))) (aj_cons (ej_call (c__law_co_told.mono (by decide)) hr (aj_cons (ej_var 7) (aj_cons (ej_var 3) aj_nil))) aj_nil)))
    (ssj_cons (sj_set (i := 10) S__law_near_right.nd (ej_call (c_parts.mono (by decide)) hr (aj_cons (ej_var 1) (aj_cons (ej_var 9) aj_nil))))
    (ssj_cons (sj_if (tj_w (wj_or (tj_cmp (op_neP (hu200 hr)) oEq_ok (ej_cmp op_isN oIs_ok (ej_var 10) ej_non) (ej_cmp op_isN oIs_ok (ej_var 8) ej_non)) (wj_or1 (tj_cmp (op_neP (hu200 hr)) oEq_ok (ej_call (c_is_by.mono (by decide)) hr (aj_cons (ej_var 1) (aj_cons (ej_var 9) aj_nil))) (ej_cmp op_notN oIsNot_ok (ej_var 8) ej_non))))) (ssj_one (sj_ret ej_bl)) ssj_nil)
    (ssj_one (sj_if (tj_w (wj_and (tj_cmp op_notN oIsNot_ok (ej_var 8) ej_non) (wj_and1 (tj_cmp (op_neP (hu200 hr)) oEq_ok (ej_var 10) (ej_ty call_tuple_of oTupleOf_ok T.n_tuple (aj_cons (ej_lc (own := [("number", 11)]) rfl S__law_near_right.nd (ij_seq (ej_var 8)) (blkOk_by (N := N__law_near_right) (sc := defScope (top 61)) (by decide +kernel)) (by decide) (fun _ _ _ _ _ => (gj_nm 11 S__law_near_right.nd)) (fun _ _ _ _ _ => tsj_nil) (fun _ _ _ _ _ => (ej_call (c__law_co_low.mono (by decide)) hr (aj_cons (ej_var 11) (aj_cons (ej_var 3) aj_nil))))) aj_nil) (by decide +kernel)))))) (ssj_one (sj_ret ej_bl)) ssj_nil))))))))
    (ssj_one (sj_ret ej_bl)))
abbrev N_check_some_readings : List Str := ["readings"]
theorem S_check_some_readings : FnScope ["readings"] ["readings"] (defScope (top 32)) := ⟨rfl, rfl, rfl, by decide +kernel, rfl, by decide +kernel, by decide +kernel⟩
theorem c_check_some_readings (T : Txt K mg) (hf : mg "check_some_readings" = some (.ref (He.ga K "check_some_readings"))) (F : FnP K "check_some_readings" 32) (c_check_readings : CalM P w K mg base 4 "check_readings" 2 m_check_readings) (c_is_some_row : CalM P w K mg base 1 "is_some_row" 1 m_is_some_row) : CalM P w K mg base 5 "check_some_readings" 1 m_check_some_readings := by
  obtain ⟨fd, F⟩ := F
  refine cal_ok false (k := 4) hf F S_check_some_readings (fun _ _ _ _ _ _ us hl => match us, hl with | [_], _ => rfl) (fun cdv A outer s H E hr => ?_)
  exact (ssj_cons (sj_if (tj_not (tj_tru (ej_call (c_is_some_row.mono (by decide)) hr (aj_cons (ej_var 0) aj_nil)))) (ssj_one sj_never) ssj_nil)
    (ssj_one (sj_expr (ej_call (c_check_readings.mono (by decide)) hr (aj_cons (ej_bi call_len oLen_ok T.n_len (aj_cons (ej_var 0) aj_nil) (by decide +kernel)) (aj_cons (ej_var 0) aj_nil))))))
abbrev N_whole_of : List Str := ["one"]
theorem S_whole_of : FnScope ["one"] ["one"] (defScope (top 21)) := ⟨rfl, rfl, rfl, by decide +kernel, rfl, by decide +kernel, by decide +kernel⟩
theorem c_whole_of (T : Txt K mg) (hf : mg "whole_of" = some (.ref (He.ga K "whole_of"))) (F : FnP K "whole_of" 21)  : CalM P w K mg base 1 "whole_of" 1 m_whole_of := by
  obtain ⟨fd, F⟩ := F
  refine cal_ok false (k := 0) hf F S_whole_of (fun _ _ _ _ _ _ us hl => match us, hl with | [_], _ => rfl) (fun cdv A outer s H E hr => ?_)
  exact (ssj_one (sj_ret (ej_div (ej_item (ej_var 0) ej_int) (ej_item (ej_var 0) ej_int))))
abbrev N_class_with : List Str := ["readings", "common", "reading", "rests", "steps", "order", "step", "clock"]
theorem S_class_with : FnScope ["readings", "common", "reading", "rests", "steps", "order", "step", "clock"] ["readings"] (defScope (top 37)) := ⟨rfl, rfl, rfl, by decide +kernel, rfl, by decide +kernel, by decide +kernel⟩
theorem c_class_with (T : Txt K mg) (hf : mg "class_with" = some (.ref (He.ga K "class_with"))) (F : FnP K "class_with" 37) (c_whole_of : CalM P w K mg base 1 "whole_of" 1 m_whole_of) : CalM P w K mg base 2 "class_with" 1 m_class_with := by
  obtain ⟨fd, F⟩ := F
  refine cal_ok false (k := 1) hf F S_class_with (fun _ _ _ _ _ _ us hl => match us, hl with | [_], _ => rfl) (fun cdv A outer s H E hr => ?_)
  exact (ssj_cons (sj_set (i := 1) S_class_with.nd ej_int)
    (ssj_cons (sj_for PassesOwn.never rfl (ij_seq (ej_var 0)) (gj_nm 2 S_class_with.nd) (ssj_one (sj_set (i := 1) S_class_with.nd (ej_bif cr_lcm oLcm_ok T.g_lcm (aj_cons (ej_var 1) (aj_cons (ej_item (ej_var 2) ej_int) aj_nil))))))
    (ssj_cons (sj_set (i := 3) S_class_with.nd (ej_lc (own := [("reading", 2)]) rfl S_class_with.nd (ij_seq (ej_var 0)) (blkOk_by (N := N_class_with) (sc := defScope (top 37)) (by decide +kernel)) (by decide) (fun _ _ _ _ _ => (gj_nm 2 S_class_with.nd)) (fun _ _ _ _ _ => tsj_nil) (fun _ _ _ _ _ => (ej_mul (ej_mod (ej_item (ej_var 2) ej_int) (ej_item (ej_var 2) ej_int)) (ej_div (ej_var 1) (ej_item (ej_var 2) ej_int))))))
    (ssj_cons (sj_set (i := 4) S_class_with.nd (ej_add (ej_lst (aj_cons ej_int aj_nil)) (ej_lc (own := [("step", 6)]) rfl S_class_with.nd (ij_seq (ej_ssetL rfl T.n_sorted T.n_set (ej_var 3))) (blkOk_by (N := N_class_with) (sc := defScope (top 37)) (by decide +kernel)) (by decide) (fun _ _ _ _ _ => (gj_nm 6 S_class_with.nd)) (fun _ _ _ _ _ => (tsj_one (tj_cmp op_gt qGt (ej_var 6) ej_int))) (fun _ _ _ _ _ => (ej_var 6)))))
    (ssj_cons (sj_setLc (own := [("step", 6)]) rfl S_class_with.nd (ij_seq (ej_var 4)) (blkOk_by (N := N_class_with) (sc := defScope (top 37)) (by decide +kernel)) (by decide) (fun _ _ _ _ _ => (gj_nm 6 S_class_with.nd)) (fun _ _ _ _ _ => tsj_nil) (fun _ _ _ _ _ => (ej_ty call_tuple_of oTupleOf_ok T.n_tuple (aj_cons (ej_lc (own := [("clock", 7)]) rfl S_class_with.nd (ij_rg1 T.n_range (ej_bi call_len oLen_ok T.n_len (aj_cons (ej_var 3) aj_nil) (by decide +kernel))) (blk_in (N := N_class_with) (by decide +kernel)) (by decide) (fun _ _ _ _ _ => (gj_nm 7 S_class_with.nd)) (fun _ _ _ _ _ => (tsj_one (tj_cmp (op_eqP (hu200 hr)) oEq_ok (ej_item (ej_var 3) (ej_var 7)) (ej_var 6)))) (fun _ _ _ _ _ => (ej_var 7))) aj_nil) (by decide +kernel))))
    (ssj_one (sj_ret (ej_tup (aj_cons (ej_ty call_tuple_of oTupleOf_ok T.n_tuple (aj_cons (ej_lc (own := [("reading", 2)]) rfl S_class_with.nd (ij_seq (ej_var 0)) (blkOk_by (N := N_class_with) (sc := defScope (top 37)) (by decide +kernel)) (by decide) (fun _ _ _ _ _ => (gj_nm 2 S_class_with.nd)) (fun _ _ _ _ _ => tsj_nil) (fun _ _ _ _ _ => (ej_call (c_whole_of.mono (by decide)) hr (aj_cons (ej_var 2) aj_nil)))) aj_nil) (by decide +kernel)) (aj_cons (ej_ty call_tuple_of oTupleOf_ok T.n_tuple (aj_cons (ej_var 5) aj_nil) (by decide +kernel)) aj_nil))))))))))
abbrev N_class_of : List Str := ["readings"]
theorem S_class_of : FnScope ["readings"] ["readings"] (defScope (top 36)) := ⟨rfl, rfl, rfl, by decide +kernel, rfl, by decide +kernel, by decide +kernel⟩
theorem c_class_of (T : Txt K mg) (hf : mg "class_of" = some (.ref (He.ga K "class_of"))) (F : FnP K "class_of" 36) (c_check_low : CalM P w K mg base 2 "check_low" 1 m_check_low) (c_check_some_readings : CalM P w K mg base 5 "check_some_readings" 1 m_check_some_readings) (c_class_with : CalM P w K mg base 2 "class_with" 1 m_class_with) : CalM P w K mg base 6 "class_of" 1 m_class_of := by
  obtain ⟨fd, F⟩ := F
  refine cal_ok false (k := 5) hf F S_class_of (fun _ _ _ _ _ _ us hl => match us, hl with | [_], _ => rfl) (fun cdv A outer s H E hr => ?_)
  exact (ssj_cons (sj_expr (ej_call (c_check_some_readings.mono (by decide)) hr (aj_cons (ej_var 0) aj_nil)))
    (ssj_cons (sj_expr (ej_call (c_check_low.mono (by decide)) hr (aj_cons (ej_var 0) aj_nil)))
    (ssj_one (sj_ret (ej_call (c_class_with.mono (by decide)) hr (aj_cons (ej_var 0) aj_nil))))))
abbrev N__law_right : List Str := ["dice", "cls", "own", "turn", "some", "tops", "bottom", "weights", "readings", "corner", "number"]
theorem S__law_right : FnScope ["dice", "cls", "own", "turn", "some", "tops", "bottom", "weights", "readings", "corner", "number"] ["dice"] (defScope (top 62)) := ⟨rfl, rfl, rfl, by decide +kernel, rfl, by decide +kernel, by decide +kernel⟩
theorem c__law_right (T : Txt K mg) (hf : mg "_law_right" = some (.ref (He.ga K "_law_right"))) (F : FnP K "_law_right" 62) (c__law_co_class : CalM P w K mg base 3 "_law_co_class" 2 m__law_co_class) (c__law_co_corners : CalM P w K mg base 1 "_law_co_corners" 1 m__law_co_corners) (c__law_co_parts : CalM P w K mg base 2 "_law_co_parts" 1 m__law_co_parts) (c__law_co_some : CalM P w K mg base 3 "_law_co_some" 2 m__law_co_some) (c__law_co_told : CalM P w K mg base 2 "_law_co_told" 2 m__law_co_told) (c__law_co_tops : CalM P w K mg base 1 "_law_co_tops" 2 m__law_co_tops) (c__law_near_right : CalM P w K mg base 7 "_law_near_right" 4 m__law_near_right) (c__law_roll : CalM P w K mg base 1 "_law_roll" 2 m__law_roll) (c_class_of : CalM P w K mg base 6 "class_of" 1 m_class_of) (c_corners : CalM P w K mg base 6 "corners" 1 m_corners) (c_is_by : CalM P w K mg base 6 "is_by" 2 m_is_by) (c_parts : CalM P w K mg base 6 "parts" 2 m_parts) (c_point : CalM P w K mg base 6 "point" 2 m_point) : CalM P w K mg base 8 "_law_right" 1 m__law_right := by
  obtain ⟨fd, F⟩ := F
  refine cal_ok false (k := 7) hf F S__law_right (fun _ _ _ _ _ _ us hl => match us, hl with | [_], _ => rfl) (fun cdv A outer s H E hr => ?_)
  exact (ssj_cons (sj_set (i := 1) S__law_right.nd (ej_call (c__law_co_class.mono (by decide)) hr (aj_cons (ej_var 0) (aj_cons (ej_add ej_int (ej_call (c__law_roll.mono (by decide)) hr (aj_cons (ej_var 0) (aj_cons ej_int aj_nil)))) aj_nil))))
    (ssj_cons (sj_set (i := 2) S__law_right.nd (ej_call (c__law_co_corners.mono (by decide)) hr (aj_cons (ej_var 1) aj_nil)))
    (ssj_cons (sj_if (tj_w (wj_or (tj_cmp (op_neP (hu200 hr)) oEq_ok (ej_call (c_corners.mono (by decide)) hr (aj_cons (ej_var 1) aj_nil)) (ej_ty call_tuple_of oTupleOf_ok T.n_tuple (aj_cons (ej_var 2) aj_nil) (by decide +kernel))) (wj_or1 (tj_cmp (op_neP (hu200 hr)) oEq_ok (ej_lenSetT rfl (hu200 hr) T.n_len T.n_set (ej_var 2)) (ej_bi call_len oLen_ok T.n_len (aj_cons (ej_var 2) aj_nil) (by decide +kernel)))))) (ssj_one (sj_ret ej_bl)) ssj_nil)
    (ssj_cons (sj_for PassesOwn.never rfl (ij_rg1 T.n_range ej_int) (gj_nm 3 S__law_right.nd) (ssj_cons (sj_set (i := 4) S__law_right.nd (ej_call (c__law_co_some.mono (by decide)) hr (aj_cons (ej_var 0) (aj_cons (ej_bi call_len oLen_ok T.n_len (aj_cons (ej_var 2) aj_nil) (by decide +kernel)) aj_nil))))
    (ssj_cons (sj_par3 (i := 5) (j := 6) (l := 7) rfl S__law_right.nd (by decide) (by decide) (by decide) (aj_cons (ej_call (c__law_co_tops.mono (by decide)) hr (aj_cons (ej_var 2) (aj_cons (ej_var 4) aj_nil))) (aj_cons (ej_bi (cr_sum rfl) oSum_ok T.n_sum (aj_cons (ej_var 4) aj_nil) (by decide +kernel)) (aj_cons (ej_call (c__law_co_parts.mono (by decide)) hr (aj_cons (ej_var 4) aj_nil)) aj_nil))))
    (ssj_cons (sj_set (i := 8) S__law_right.nd (ej_call (c__law_co_told.mono (by decide)) hr (aj_cons (ej_var 5) (aj_cons (ej_var 6) aj_nil))))
    (ssj_cons (sj_if (tj_w (wj_or (tj_cmp (op_neP (hu200 hr)) oEq_ok (ej_call (c_point.mono (by decide)) hr (aj_cons (ej_var 1) (aj_cons (ej_var 7) aj_nil))) (ej_var 8)) (wj_or (tj_cmp (op_neP (hu200 hr)) oEq_ok (ej_call (c_parts.mono (by decide)) hr (aj_cons (ej_var 1) (aj_cons (ej_var 8) aj_nil))) (ej_var 7)) (wj_or1 (tj_not (tj_tru (ej_call (c_is_by.mono (by decide)) hr (aj_cons (ej_var 1) (aj_cons (ej_var 8) aj_nil))))))))) (ssj_one (sj_ret ej_bl)) ssj_nil)
    (ssj_cons (sj_if (tj_cmp (op_neP (hu200 hr)) oEq_ok (ej_ty call_list_of oListOf_ok T.n_list (aj_cons (ej_call (c_corners.mono (by decide)) hr (aj_cons (ej_call (c_class_of.mono (by decide)) hr (aj_cons (ej_var 8) aj_nil)) aj_nil)) aj_nil) (by decide +kernel)) (ej_lc (own := [("corner", 9), ("number", 10)]) rfl S__law_right.nd (ij_zipM T.n_zip (ej_var 2) (ej_var 4)) (blkOk_by (N := N__law_right) (sc := defScope (top 62)) (by decide +kernel)) (by decide) (fun _ _ _ _ _ => (gj_tp rfl (gjs_cons (gj_nm 9 S__law_right.nd) (gjs_cons (gj_nm 10 S__law_right.nd) gjs_nil)) (lCons_len (lCons_len lNil_len)))) (fun _ _ _ _ _ => (tsj_one (tj_cmp op_gt qGt (ej_var 10) ej_int))) (fun _ _ _ _ _ => (ej_var 9)))) (ssj_one (sj_ret ej_bl)) ssj_nil)
    (ssj_one (sj_if (tj_w (wj_or (tj_cmp (op_neP (hu200 hr)) oEq_ok (ej_cmp (op_eqP (hu200 hr)) oEq_ok (ej_call (c_class_of.mono (by decide)) hr (aj_cons (ej_var 8) aj_nil)) (ej_var 1)) (ej_cmp (op_niP (hu200 hr)) oIn_ok ej_int (ej_var 4))) (wj_or1 (tj_not (tj_tru (ej_call (c__law_near_right.mono (by decide)) hr (aj_cons (ej_var 0) (aj_cons (ej_var 1) (aj_cons (ej_var 5) (aj_cons (ej_var 6) aj_nil)))))))))) (ssj_one (sj_ret ej_bl)) ssj_nil))))))))
    (ssj_one (sj_ret ej_bl))))))
abbrev N_law : List Str := ["script", "spot", "dice", "turn", "one", "two", "told", "due"]
theorem S_law : FnScope ["script", "spot", "dice", "turn", "one", "two", "told", "due"] ["script"] (defScope (top 63)) := ⟨rfl, rfl, rfl, by decide +kernel, rfl, by decide +kernel, by decide +kernel⟩
theorem law_fn {fd : FuncData} (T : Txt K mg) (F : FunD K "law" "law" (defArgs (top 63)) (defBody (top 63)) (defScope (top 63)) [] [] (He.ga K "law") fd) (c__law_dice : CalM P w K mg base 1 "_law_dice" 2 m__law_dice) (c__law_right : CalM P w K mg base 8 "_law_right" 1 m__law_right) (c_corners : CalM P w K mg base 6 "corners" 1 m_corners) (c_parts : CalM P w K mg base 6 "parts" 2 m_parts) (c_point : CalM P w K mg base 6 "point" 2 m_point) : FnOk P w K mg base CX0 9 (He.ga K "law") fd ["script"] (spM K 1 m_law) := by
  refine fn_ok false (k := 8) F S_law (fun cdv A outer s H E hr => ?_)
  exact (ssj_cons (sj_for PassesOwn.never rfl (ij_rg1 T.n_range (ej_bi (call_max2 rfl) oMax2_ok T.n_max (aj_cons ej_int (aj_cons (ej_bi (call_min2 rfl) oMin2_ok T.n_min (aj_cons ej_int (aj_cons (ej_bi call_len oLen_ok T.n_len (aj_cons (ej_var 0) aj_nil) (by decide +kernel)) aj_nil)) (by decide +kernel)) aj_nil)) (by decide +kernel))) (gj_nm 1 S_law.nd) (ssj_cons (sj_set (i := 2) S_law.nd (ej_call (c__law_dice.mono (by decide)) hr (aj_cons (ej_var 0) (aj_cons (ej_var 1) aj_nil))))
    (ssj_one (sj_for PassesOwn.never rfl (ij_rg1 T.n_range ej_int) (gj_nm 3 S_law.nd) (ssj_one (sj_if (tj_not (tj_tru (ej_call (c__law_right.mono (by decide)) hr (aj_cons (ej_var 2) aj_nil)))) (ssj_one (sj_ret ej_bl)) ssj_nil))))))
    (ssj_cons (sj_asg (ej_tup (aj_cons (ej_tup (aj_cons (ej_tup (aj_cons ej_int (aj_cons ej_int aj_nil))) (aj_cons (ej_tup (aj_cons (ej_tup (aj_cons ej_int aj_nil)) (aj_cons (ej_tup (aj_cons ej_int aj_nil)) aj_nil))) aj_nil))) (aj_cons (ej_tup (aj_cons (ej_tup (aj_cons ej_int (aj_cons ej_int (aj_cons ej_int aj_nil)))) (aj_cons (ej_tup (aj_cons (ej_tup aj_nil) (aj_cons (ej_tup (aj_cons ej_int (aj_cons ej_int aj_nil))) (aj_cons (ej_tup (aj_cons ej_int aj_nil)) aj_nil)))) aj_nil))) aj_nil))) (gj_tp rfl (gjs_cons (gj_nm 4 S_law.nd) (gjs_cons (gj_nm 5 S_law.nd) gjs_nil)) (lCons_len (lCons_len lNil_len))))
    (ssj_cons (sj_set (i := 6) S_law.nd (ej_lst (aj_cons (ej_call (c_corners.mono (by decide)) hr (aj_cons (ej_var 4) aj_nil)) (aj_cons (ej_call (c_corners.mono (by decide)) hr (aj_cons (ej_var 5) aj_nil)) (aj_cons (ej_call (c_corners.mono (by decide)) hr (aj_cons (ej_tup (aj_cons (ej_tup (aj_cons ej_int aj_nil)) (aj_cons (ej_tup (aj_cons (ej_tup (aj_cons ej_int aj_nil)) aj_nil)) aj_nil))) aj_nil)) (aj_cons (ej_call (c_parts.mono (by decide)) hr (aj_cons (ej_var 4) (aj_cons (ej_tup (aj_cons (ej_tup (aj_cons ej_int (aj_cons ej_int aj_nil))) (aj_cons (ej_tup (aj_cons ej_int (aj_cons ej_int aj_nil))) aj_nil))) aj_nil))) (aj_cons (ej_call (c_parts.mono (by decide)) hr (aj_cons (ej_var 4) (aj_cons (ej_tup (aj_cons (ej_tup (aj_cons ej_int (aj_cons ej_int aj_nil))) (aj_cons (ej_tup (aj_cons ej_int (aj_cons ej_int aj_nil))) aj_nil))) aj_nil))) aj_nil)))))))
    (ssj_cons (sj_set (i := 7) S_law.nd (ej_lst (aj_cons (ej_tup (aj_cons (ej_tup (aj_cons ej_int (aj_cons ej_int aj_nil))) (aj_cons (ej_tup (aj_cons ej_int (aj_cons ej_int aj_nil))) aj_nil))) (aj_cons (ej_tup (aj_cons (ej_tup (aj_cons ej_int (aj_cons ej_int (aj_cons ej_int aj_nil)))) (aj_cons (ej_tup (aj_cons ej_int (aj_cons ej_int (aj_cons ej_int aj_nil)))) (aj_cons (ej_tup (aj_cons ej_int (aj_cons ej_int (aj_cons ej_int aj_nil)))) aj_nil)))) (aj_cons (ej_tup (aj_cons (ej_tup (aj_cons ej_int aj_nil)) aj_nil)) (aj_cons (ej_tup (aj_cons (ej_tup (aj_cons ej_int (aj_cons ej_int aj_nil))) (aj_cons (ej_tup (aj_cons ej_int (aj_cons ej_int aj_nil))) aj_nil))) (aj_cons ej_non aj_nil)))))))
    (ssj_one (sj_ret (ej_and (ej_cmp (op_eqP (hu200 hr)) oEq_ok (ej_var 6) (ej_var 7)) (ej_one (ej_cmp (op_eqP (hu200 hr)) oEq_ok (ej_call (c_point.mono (by decide)) hr (aj_cons (ej_var 5) (aj_cons (ej_tup (aj_cons (ej_tup (aj_cons ej_int (aj_cons ej_int aj_nil))) (aj_cons (ej_tup (aj_cons ej_int (aj_cons ej_int aj_nil))) (aj_cons (ej_tup (aj_cons ej_int (aj_cons ej_int aj_nil))) aj_nil)))) aj_nil))) (ej_tup (aj_cons (ej_tup (aj_cons ej_int (aj_cons ej_int aj_nil))) (aj_cons (ej_tup (aj_cons ej_int (aj_cons ej_int aj_nil))) (aj_cons (ej_tup (aj_cons ej_int (aj_cons ej_int aj_nil))) aj_nil)))))))))))))
end
end MR
end
section
set_option Elab.async false
set_option linter.all false
set_option maxRecDepth 100000
set_option maxHeartbeats 0
namespace MR
open PySem PySem.Spec PyProof.Rows L2 VL
def d__law_dice : He.DefD := ⟨("_law_dice", none), "_law_dice", "_law_dice", defArgs (top 50), defBody (top 50), defScope (top 50), [], []⟩
def d_is_row : He.DefD := ⟨("is_row", none), "is_row", "is_row", defArgs (top 11), defBody (top 11), defScope (top 11), [], []⟩
def d_is_some_row : He.DefD := ⟨("is_some_row", none), "is_some_row", "is_some_row", defArgs (top 30), defBody (top 30), defScope (top 30), [], []⟩
def d_is_number : He.DefD := ⟨("is_number", none), "is_number", "is_number", defArgs (top 8), defBody (top 8), defScope (top 8), [], []⟩
def d_is_from_to : He.DefD := ⟨("is_from_to", none), "is_from_to", "is_from_to", defArgs (top 9), defBody (top 9), defScope (top 9), [], []⟩
def d_are_numbers : He.DefD := ⟨("are_numbers", none), "are_numbers", "are_numbers", defArgs (top 10), defBody (top 10), defScope (top 10), [], []⟩
def d_is_ascending : He.DefD := ⟨("is_ascending", none), "is_ascending", "is_ascending", defArgs (top 12), defBody (top 12), defScope (top 12), [], []⟩
def d_has_class_form : He.DefD := ⟨("has_class_form", none), "has_class_form", "has_class_form", defArgs (top 34), defBody (top 34), defScope (top 34), [], []⟩
def d_check_class : He.DefD := ⟨("check_class", none), "check_class", "check_class", defArgs (top 35), defBody (top 35), defScope (top 35), [], []⟩
def d_raised : He.DefD := ⟨("raised", none), "raised", "raised", defArgs (top 39), defBody (top 39), defScope (top 39), [], []⟩
def d_corners_of : He.DefD := ⟨("corners_of", none), "corners_of", "corners_of", defArgs (top 45), defBody (top 45), defScope (top 45), [], []⟩
def d_corners : He.DefD := ⟨("corners", none), "corners", "corners", defArgs (top 44), defBody (top 44), defScope (top 44), [], []⟩
def d_is_fraction : He.DefD := ⟨("is_fraction", none), "is_fraction", "is_fraction", defArgs (top 23), defBody (top 23), defScope (top 23), [], []⟩
def d_is_from_zero : He.DefD := ⟨("is_from_zero", none), "is_from_zero", "is_from_zero", defArgs (top 25), defBody (top 25), defScope (top 25), [], []⟩
def d_check_readings : He.DefD := ⟨("check_readings", none), "check_readings", "check_readings", defArgs (top 31), defBody (top 31), defScope (top 31), [], []⟩
def d_reduced : He.DefD := ⟨("reduced", none), "reduced", "reduced", defArgs (top 16), defBody (top 16), defScope (top 16), [], []⟩
def d_difference_of : He.DefD := ⟨("difference_of", none), "difference_of", "difference_of", defArgs (top 18), defBody (top 18), defScope (top 18), [], []⟩
def d_rises : He.DefD := ⟨("rises", none), "rises", "rises", defArgs (top 42), defBody (top 42), defScope (top 42), [], []⟩
def d_rests_by : He.DefD := ⟨("rests_by", none), "rests_by", "rests_by", defArgs (top 41), defBody (top 41), defScope (top 41), [], []⟩
def d_parts : He.DefD := ⟨("parts", none), "parts", "parts", defArgs (top 46), defBody (top 46), defScope (top 46), [], []⟩
def d_sum_of : He.DefD := ⟨("sum_of", none), "sum_of", "sum_of", defArgs (top 17), defBody (top 17), defScope (top 17), [], []⟩
def d_total_of : He.DefD := ⟨("total_of", none), "total_of", "total_of", defArgs (top 19), defBody (top 19), defScope (top 19), [], []⟩
def d_are_fractions : He.DefD := ⟨("are_fractions", none), "are_fractions", "are_fractions", defArgs (top 24), defBody (top 24), defScope (top 24), [], []⟩
def d_are_weights : He.DefD := ⟨("are_weights", none), "are_weights", "are_weights", defArgs (top 26), defBody (top 26), defScope (top 26), [], []⟩
def d_check_weights : He.DefD := ⟨("check_weights", none), "check_weights", "check_weights", defArgs (top 48), defBody (top 48), defScope (top 48), [], []⟩
def d_readings_at : He.DefD := ⟨("readings_at", none), "readings_at", "readings_at", defArgs (top 38), defBody (top 38), defScope (top 38), [], []⟩
def d_point : He.DefD := ⟨("point", none), "point", "point", defArgs (top 47), defBody (top 47), defScope (top 47), [], []⟩
def d__law_roll : He.DefD := ⟨("_law_roll", none), "_law_roll", "_law_roll", defArgs (top 51), defBody (top 51), defScope (top 51), [], []⟩
def d__law_pick : He.DefD := ⟨("_law_pick", none), "_law_pick", "_law_pick", defArgs (top 52), defBody (top 52), defScope (top 52), [], []⟩
def d__law_co_class : He.DefD := ⟨("_law_co_class", none), "_law_co_class", "_law_co_class", defArgs (top 53), defBody (top 53), defScope (top 53), [], []⟩
def d__law_co_corners : He.DefD := ⟨("_law_co_corners", none), "_law_co_corners", "_law_co_corners", defArgs (top 54), defBody (top 54), defScope (top 54), [], []⟩
def d__law_co_some : He.DefD := ⟨("_law_co_some", none), "_law_co_some", "_law_co_some", defArgs (top 56), defBody (top 56), defScope (top 56), [], []⟩
def d__law_co_low : He.DefD := ⟨("_law_co_low", none), "_law_co_low", "_law_co_low", defArgs (top 55), defBody (top 55), defScope (top 55), [], []⟩
def d__law_co_told : He.DefD := ⟨("_law_co_told", none), "_law_co_told", "_law_co_told", defArgs (top 59), defBody (top 59), defScope (top 59), [], []⟩
def d__law_co_tops : He.DefD := ⟨("_law_co_tops", none), "_law_co_tops", "_law_co_tops", defArgs (top 58), defBody (top 58), defScope (top 58), [], []⟩
def d__law_co_parts : He.DefD := ⟨("_law_co_parts", none), "_law_co_parts", "_law_co_parts", defArgs (top 57), defBody (top 57), defScope (top 57), [], []⟩
def d_order_of : He.DefD := ⟨("order_of", none), "order_of", "order_of", defArgs (top 20), defBody (top 20), defScope (top 20), [], []⟩
def d_check_low : He.DefD := ⟨("check_low", none), "check_low", "check_low", defArgs (top 33), defBody (top 33), defScope (top 33), [], []⟩
def d_is_by : He.DefD := ⟨("is_by", none), "is_by", "is_by", defArgs (top 40), defBody (top 40), defScope (top 40), [], []⟩
def d__law_own_parts : He.DefD := ⟨("_law_own_parts", none), "_law_own_parts", "_law_own_parts", defArgs (top 60), defBody (top 60), defScope (top 60), [], []⟩
def d__law_near_right : He.DefD := ⟨("_law_near_right", none), "_law_near_right", "_law_near_right", defArgs (top 61), defBody (top 61), defScope (top 61), [], []⟩
def d_check_some_readings : He.DefD := ⟨("check_some_readings", none), "check_some_readings", "check_some_readings", defArgs (top 32), defBody (top 32), defScope (top 32), [], []⟩
def d_whole_of : He.DefD := ⟨("whole_of", none), "whole_of", "whole_of", defArgs (top 21), defBody (top 21), defScope (top 21), [], []⟩
def d_class_with : He.DefD := ⟨("class_with", none), "class_with", "class_with", defArgs (top 37), defBody (top 37), defScope (top 37), [], []⟩
def d_class_of : He.DefD := ⟨("class_of", none), "class_of", "class_of", defArgs (top 36), defBody (top 36), defScope (top 36), [], []⟩
def d__law_right : He.DefD := ⟨("_law_right", none), "_law_right", "_law_right", defArgs (top 62), defBody (top 62), defScope (top 62), [], []⟩
def d_law : He.DefD := ⟨("law", none), "law", "law", defArgs (top 63), defBody (top 63), defScope (top 63), [], []⟩
def fn0 : List He.DefD := [d__law_dice, d_is_row, d_is_some_row, d_is_number, d_is_from_to, d_are_numbers, d_is_ascending, d_has_class_form, d_check_class, d_raised, d_corners_of, d_corners, d_is_fraction, d_is_from_zero, d_check_readings, d_reduced, d_difference_of, d_rises, d_rests_by, d_parts]
def fn1 : List He.DefD := [d_sum_of, d_total_of, d_are_fractions, d_are_weights, d_check_weights, d_readings_at, d_point, d__law_roll, d__law_pick, d__law_co_class, d__law_co_corners, d__law_co_some, d__law_co_low, d__law_co_told, d__law_co_tops, d__law_co_parts, d_order_of, d_check_low, d_is_by, d__law_own_parts]
def fn2 : List He.DefD := [d__law_near_right, d_check_some_readings, d_whole_of, d_class_with, d_class_of, d__law_right, d_law]
def fn : List He.DefD := fn0 ++ fn1 ++ fn2
def fa0 : List He.Fa := [.glo "_law_dice", .glo "is_row", .glo "is_some_row", .glo "is_number", .glo "is_from_to", .glo "are_numbers", .glo "is_ascending", .glo "has_class_form", .glo "check_class", .glo "raised", .glo "corners_of", .glo "corners", .glo "is_fraction", .glo "is_from_zero", .glo "check_readings", .glo "reduced", .glo "difference_of", .glo "rises", .glo "rests_by", .glo "parts", .glo "sum_of", .glo "total_of", .glo "are_fractions", .glo "are_weights", .glo "check_weights", .glo "readings_at", .glo "point", .glo "_law_roll", .glo "_law_pick", .glo "_law_co_class"]
def fa1 : List He.Fa := [.glo "_law_co_corners", .glo "_law_co_some", .glo "_law_co_low", .glo "_law_co_told", .glo "_law_co_tops", .glo "_law_co_parts", .glo "order_of", .glo "check_low", .glo "is_by", .glo "_law_own_parts", .glo "_law_near_right", .glo "check_some_readings", .glo "whole_of", .glo "class_with", .glo "class_of", .glo "_law_right", .glo "law", .free "abs", .free "all", .free "any", .free "bool", .free "enumerate", .free "int", .free "isinstance", .free "len", .free "list", .free "max", .free "min", .free "range", .free "reversed"]
def fa2 : List He.Fa := [.free "set", .free "sorted", .free "sum", .free "tuple", .free "zip", .int "GREATEST" 999999999999999999999999999999999999999999999999999999999999, .int "MOST_CLOCKS" 3, .int "MOST_NUMBER" 4]
def faT : List He.Fa := [.glo "UNIT", .glo "ZERO"]
def fa : List He.Fa := fa0 ++ fa1 ++ fa2 ++ faT
def ex (K : PySem.W.Frag) : Bool := (He.tupB K "UNIT" [.int 1, .int 1] && (He.tupB K "ZERO" [.int 0, .int 1] && (He.eqO (PySem.W.nsIn K mainGlobals "gcd") (some (some (.builtin "math.gcd"))) && (He.eqO (PySem.W.nsIn K mainGlobals "lcm") (some (some (.builtin "math.lcm"))) && true))))
abbrev R : PySem.W.OpenRow := PySem.W.OpenLaw.row PySem.Challenge.rw_anymargin_k12_whole_corners_and_weights
abbrev hk : PySem.W.Hook := He.hookX 4 fa fn [] [] ex
def ob (s : PySem.W.SharedT) : He.AlX := He.obsX 4 fa fn [] [] ex (HandSHeadRun.getT s)
theorem ob_eq (s : PySem.W.SharedT) : ob s = hk.obs s.abs := He.obsX_eq (HandSHeadRun.getT_eq s)
def loose : List PySem.Str := (["gcd", "lcm", "__name__", "MarginError", "InvalidReadings", "InvalidClass", "InvalidOperation", "GREATEST", "is_number", "is_from_to", "are_numbers", "is_row", "is_ascending", "ZERO", "UNIT", "reduced", "sum_of", "difference_of", "total_of", "order_of", "whole_of", "is_fraction", "are_fractions", "is_from_zero", "are_weights", "MOST_NUMBER", "MOST_CLOCKS", "is_some_row", "check_readings", "check_some_readings"] : List PySem.Str) ++ (["check_low", "has_class_form", "check_class", "class_of", "class_with", "readings_at", "raised", "is_by", "rests_by", "rises", "corners", "corners_of", "parts", "point", "check_weights", "_law_dice", "_law_roll", "_law_pick", "_law_co_class", "_law_co_corners", "_law_co_low", "_law_co_some", "_law_co_parts", "_law_co_tops", "_law_co_told", "_law_own_parts", "_law_near_right", "_law_right"] : List PySem.Str)
theorem run (w : World) : HandSHeadRun.RunEqI R (PySem.W.view R.prog [0, 63]) hk ob 3000 loose w := by
  unfold HandSHeadRun.RunEqI
  kernel_rfl
def spL (K : PySem.W.Frag) : Sp := spM K 1 m_law
theorem facts {P : Program} {w : World} {K : PySem.W.Frag} {h : Heap} {mg : Str → Option Value} {f : Addr} (X : K.In h) (G : h.Ns mainGlobals mg) (hfa : mg ("law" : Str) = some (.ref f)) (c : He.SaysD fa fn K) (mo : ex K = true) :
    ∃ fd : FuncData, (∀ (s : Shared) (v : Value), BindsTo s fd ⟨[v], []⟩ [("script", v)]) ∧ ∀ base : Heap, K.In base → base.Ns mainGlobals mg → FnOk P w K mg base CX0 9 f fd ["script"] (spM K 1 m_law) := by
  obtain ⟨x0, mo⟩ := He.ba (show (_ && _) = true from mo)
  obtain ⟨x1, mo⟩ := He.ba (show (_ && _) = true from mo)
  obtain ⟨x2, mo⟩ := He.ba (show (_ && _) = true from mo)
  obtain ⟨x3, mo⟩ := He.ba (show (_ && _) = true from mo)
  have T : Txt K mg := by
    constructor
    · exact He.free_ok X G (c.fact 47 (f := .free "abs") rfl)
    · exact He.free_ok X G (c.fact 48 (f := .free "all") rfl)
    · exact He.free_ok X G (c.fact 49 (f := .free "any") rfl)
    · exact He.free_ok X G (c.fact 50 (f := .free "bool") rfl)
    · exact He.free_ok X G (c.fact 51 (f := .free "enumerate") rfl)
    · exact He.free_ok X G (c.fact 52 (f := .free "int") rfl)
    · exact He.free_ok X G (c.fact 53 (f := .free "isinstance") rfl)
    · exact He.free_ok X G (c.fact 54 (f := .free "len") rfl)
    · exact He.free_ok X G (c.fact 55 (f := .free "list") rfl)
    · exact He.free_ok X G (c.fact 56 (f := .free "max") rfl)
    · exact He.free_ok X G (c.fact 57 (f := .free "min") rfl)
    · exact He.free_ok X G (c.fact 58 (f := .free "range") rfl)
    · exact He.free_ok X G (c.fact 59 (f := .free "reversed") rfl)
    · exact He.free_ok X G (c.fact 60 (f := .free "set") rfl)
    · exact He.free_ok X G (c.fact 61 (f := .free "sorted") rfl)
    · exact He.free_ok X G (c.fact 62 (f := .free "sum") rfl)
    · exact He.free_ok X G (c.fact 63 (f := .free "tuple") rfl)
    · exact He.free_ok X G (c.fact 64 (f := .free "zip") rfl)
    · exact He.int_ok X G (c.fact 65 (f := .int "GREATEST" 999999999999999999999999999999999999999999999999999999999999) rfl)
    · exact He.int_ok X G (c.fact 66 (f := .int "MOST_CLOCKS" 3) rfl)
    · exact He.int_ok X G (c.fact 67 (f := .int "MOST_NUMBER" 4) rfl)
    · exact ⟨He.glo_ok X G (c.fact 68 (f := .glo "UNIT") rfl), fun A H => ⟨_, _, rfl, He.tupB_ok x0 H, ⟨_, _, rfl, rfl, ⟨_, _, rfl, rfl, rfl⟩⟩⟩⟩
    · exact ⟨He.glo_ok X G (c.fact 69 (f := .glo "ZERO") rfl), fun A H => ⟨_, _, rfl, He.tupB_ok x1 H, ⟨_, _, rfl, rfl, ⟨_, _, rfl, rfl, rfl⟩⟩⟩⟩
    · exact PySem.W.mg_of X G (He.eqO_ok x2)
    · exact PySem.W.mg_of X G (He.eqO_ok x3)
  have h__law_dice := He.glo_ok X G (c.fact 0 (f := .glo "_law_dice") rfl)
  have F__law_dice : FnP K "_law_dice" 50 := c.def_ 0 (d := d__law_dice) rfl
  have h_is_row := He.glo_ok X G (c.fact 1 (f := .glo "is_row") rfl)
  have F_is_row : FnP K "is_row" 11 := c.def_ 1 (d := d_is_row) rfl
  have h_is_some_row := He.glo_ok X G (c.fact 2 (f := .glo "is_some_row") rfl)
  have F_is_some_row : FnP K "is_some_row" 30 := c.def_ 2 (d := d_is_some_row) rfl
  have h_is_number := He.glo_ok X G (c.fact 3 (f := .glo "is_number") rfl)
  have F_is_number : FnP K "is_number" 8 := c.def_ 3 (d := d_is_number) rfl
  have h_is_from_to := He.glo_ok X G (c.fact 4 (f := .glo "is_from_to") rfl)
  have F_is_from_to : FnP K "is_from_to" 9 := c.def_ 4 (d := d_is_from_to) rfl
  have h_are_numbers := He.glo_ok X G (c.fact 5 (f := .glo "are_numbers") rfl)
  have F_are_numbers : FnP K "are_numbers" 10 := c.def_ 5 (d := d_are_numbers) rfl
  have h_is_ascending := He.glo_ok X G (c.fact 6 (f := .glo "is_ascending") rfl)
  have F_is_ascending : FnP K "is_ascending" 12 := c.def_ 6 (d := d_is_ascending) rfl
  have h_has_class_form := He.glo_ok X G (c.fact 7 (f := .glo "has_class_form") rfl)
  have F_has_class_form : FnP K "has_class_form" 34 := c.def_ 7 (d := d_has_class_form) rfl
  have h_check_class := He.glo_ok X G (c.fact 8 (f := .glo "check_class") rfl)
  have F_check_class : FnP K "check_class" 35 := c.def_ 8 (d := d_check_class) rfl
  have h_raised := He.glo_ok X G (c.fact 9 (f := .glo "raised") rfl)
  have F_raised : FnP K "raised" 39 := c.def_ 9 (d := d_raised) rfl
  have h_corners_of := He.glo_ok X G (c.fact 10 (f := .glo "corners_of") rfl)
  have F_corners_of : FnP K "corners_of" 45 := c.def_ 10 (d := d_corners_of) rfl
  have h_corners := He.glo_ok X G (c.fact 11 (f := .glo "corners") rfl)
  have F_corners : FnP K "corners" 44 := c.def_ 11 (d := d_corners) rfl
  have h_is_fraction := He.glo_ok X G (c.fact 12 (f := .glo "is_fraction") rfl)
  have F_is_fraction : FnP K "is_fraction" 23 := c.def_ 12 (d := d_is_fraction) rfl
  have h_is_from_zero := He.glo_ok X G (c.fact 13 (f := .glo "is_from_zero") rfl)
  have F_is_from_zero : FnP K "is_from_zero" 25 := c.def_ 13 (d := d_is_from_zero) rfl
  have h_check_readings := He.glo_ok X G (c.fact 14 (f := .glo "check_readings") rfl)
  have F_check_readings : FnP K "check_readings" 31 := c.def_ 14 (d := d_check_readings) rfl
  have h_reduced := He.glo_ok X G (c.fact 15 (f := .glo "reduced") rfl)
  have F_reduced : FnP K "reduced" 16 := c.def_ 15 (d := d_reduced) rfl
  have h_difference_of := He.glo_ok X G (c.fact 16 (f := .glo "difference_of") rfl)
  have F_difference_of : FnP K "difference_of" 18 := c.def_ 16 (d := d_difference_of) rfl
  have h_rises := He.glo_ok X G (c.fact 17 (f := .glo "rises") rfl)
  have F_rises : FnP K "rises" 42 := c.def_ 17 (d := d_rises) rfl
  have h_rests_by := He.glo_ok X G (c.fact 18 (f := .glo "rests_by") rfl)
  have F_rests_by : FnP K "rests_by" 41 := c.def_ 18 (d := d_rests_by) rfl
  have h_parts := He.glo_ok X G (c.fact 19 (f := .glo "parts") rfl)
  have F_parts : FnP K "parts" 46 := c.def_ 19 (d := d_parts) rfl
  have h_sum_of := He.glo_ok X G (c.fact 20 (f := .glo "sum_of") rfl)
  have F_sum_of : FnP K "sum_of" 17 := c.def_ 20 (d := d_sum_of) rfl
  have h_total_of := He.glo_ok X G (c.fact 21 (f := .glo "total_of") rfl)
  have F_total_of : FnP K "total_of" 19 := c.def_ 21 (d := d_total_of) rfl
  have h_are_fractions := He.glo_ok X G (c.fact 22 (f := .glo "are_fractions") rfl)
  have F_are_fractions : FnP K "are_fractions" 24 := c.def_ 22 (d := d_are_fractions) rfl
  have h_are_weights := He.glo_ok X G (c.fact 23 (f := .glo "are_weights") rfl)
  have F_are_weights : FnP K "are_weights" 26 := c.def_ 23 (d := d_are_weights) rfl
  have h_check_weights := He.glo_ok X G (c.fact 24 (f := .glo "check_weights") rfl)
  have F_check_weights : FnP K "check_weights" 48 := c.def_ 24 (d := d_check_weights) rfl
  have h_readings_at := He.glo_ok X G (c.fact 25 (f := .glo "readings_at") rfl)
  have F_readings_at : FnP K "readings_at" 38 := c.def_ 25 (d := d_readings_at) rfl
  have h_point := He.glo_ok X G (c.fact 26 (f := .glo "point") rfl)
  have F_point : FnP K "point" 47 := c.def_ 26 (d := d_point) rfl
  have h__law_roll := He.glo_ok X G (c.fact 27 (f := .glo "_law_roll") rfl)
  have F__law_roll : FnP K "_law_roll" 51 := c.def_ 27 (d := d__law_roll) rfl
  have h__law_pick := He.glo_ok X G (c.fact 28 (f := .glo "_law_pick") rfl)
  have F__law_pick : FnP K "_law_pick" 52 := c.def_ 28 (d := d__law_pick) rfl
  have h__law_co_class := He.glo_ok X G (c.fact 29 (f := .glo "_law_co_class") rfl)
  have F__law_co_class : FnP K "_law_co_class" 53 := c.def_ 29 (d := d__law_co_class) rfl
  have h__law_co_corners := He.glo_ok X G (c.fact 30 (f := .glo "_law_co_corners") rfl)
  have F__law_co_corners : FnP K "_law_co_corners" 54 := c.def_ 30 (d := d__law_co_corners) rfl
  have h__law_co_some := He.glo_ok X G (c.fact 31 (f := .glo "_law_co_some") rfl)
  have F__law_co_some : FnP K "_law_co_some" 56 := c.def_ 31 (d := d__law_co_some) rfl
  have h__law_co_low := He.glo_ok X G (c.fact 32 (f := .glo "_law_co_low") rfl)
  have F__law_co_low : FnP K "_law_co_low" 55 := c.def_ 32 (d := d__law_co_low) rfl
  have h__law_co_told := He.glo_ok X G (c.fact 33 (f := .glo "_law_co_told") rfl)
  have F__law_co_told : FnP K "_law_co_told" 59 := c.def_ 33 (d := d__law_co_told) rfl
  have h__law_co_tops := He.glo_ok X G (c.fact 34 (f := .glo "_law_co_tops") rfl)
  have F__law_co_tops : FnP K "_law_co_tops" 58 := c.def_ 34 (d := d__law_co_tops) rfl
  have h__law_co_parts := He.glo_ok X G (c.fact 35 (f := .glo "_law_co_parts") rfl)
  have F__law_co_parts : FnP K "_law_co_parts" 57 := c.def_ 35 (d := d__law_co_parts) rfl
  have h_order_of := He.glo_ok X G (c.fact 36 (f := .glo "order_of") rfl)
  have F_order_of : FnP K "order_of" 20 := c.def_ 36 (d := d_order_of) rfl
  have h_check_low := He.glo_ok X G (c.fact 37 (f := .glo "check_low") rfl)
  have F_check_low : FnP K "check_low" 33 := c.def_ 37 (d := d_check_low) rfl
  have h_is_by := He.glo_ok X G (c.fact 38 (f := .glo "is_by") rfl)
  have F_is_by : FnP K "is_by" 40 := c.def_ 38 (d := d_is_by) rfl
  have h__law_own_parts := He.glo_ok X G (c.fact 39 (f := .glo "_law_own_parts") rfl)
  have F__law_own_parts : FnP K "_law_own_parts" 60 := c.def_ 39 (d := d__law_own_parts) rfl
  have h__law_near_right := He.glo_ok X G (c.fact 40 (f := .glo "_law_near_right") rfl)
  have F__law_near_right : FnP K "_law_near_right" 61 := c.def_ 40 (d := d__law_near_right) rfl
  have h_check_some_readings := He.glo_ok X G (c.fact 41 (f := .glo "check_some_readings") rfl)
  have F_check_some_readings : FnP K "check_some_readings" 32 := c.def_ 41 (d := d_check_some_readings) rfl
  have h_whole_of := He.glo_ok X G (c.fact 42 (f := .glo "whole_of") rfl)
  have F_whole_of : FnP K "whole_of" 21 := c.def_ 42 (d := d_whole_of) rfl
  have h_class_with := He.glo_ok X G (c.fact 43 (f := .glo "class_with") rfl)
  have F_class_with : FnP K "class_with" 37 := c.def_ 43 (d := d_class_with) rfl
  have h_class_of := He.glo_ok X G (c.fact 44 (f := .glo "class_of") rfl)
  have F_class_of : FnP K "class_of" 36 := c.def_ 44 (d := d_class_of) rfl
  have h__law_right := He.glo_ok X G (c.fact 45 (f := .glo "_law_right") rfl)
  have F__law_right : FnP K "_law_right" 62 := c.def_ 45 (d := d__law_right) rfl
  have h_law := He.glo_ok X G (c.fact 46 (f := .glo "law") rfl)
  have F_law : FnP K "law" 63 := c.def_ 46 (d := d_law) rfl
  obtain ⟨fd, F⟩ := id F_law
  have e := hfa.symm.trans h_law
  cases e
  have b := FunD.bindsA (ps := ["script"]) F fun _ _ _ _ _ _ us hl => match us, hl with | [_], _ => rfl
  refine ⟨fd, fun s v => b s [v] rfl, fun base KB GB => ?_⟩
  have k__law_dice := c__law_dice (P := P) (w := w) (base := base) T h__law_dice F__law_dice 
  have k_is_row := c_is_row (P := P) (w := w) (base := base) T h_is_row F_is_row 
  have k_is_some_row := c_is_some_row (P := P) (w := w) (base := base) T h_is_some_row F_is_some_row 
  have k_is_number := c_is_number (P := P) (w := w) (base := base) T h_is_number F_is_number 
  have k_is_from_to := c_is_from_to (P := P) (w := w) (base := base) T h_is_from_to F_is_from_to k_is_number
  have k_are_numbers := c_are_numbers (P := P) (w := w) (base := base) T h_are_numbers F_are_numbers k_is_from_to k_is_row
  have k_is_ascending := c_is_ascending (P := P) (w := w) (base := base) T h_is_ascending F_is_ascending 
  have k_has_class_form := c_has_class_form (P := P) (w := w) (base := base) T h_has_class_form F_has_class_form k_are_numbers k_is_ascending k_is_row
  have k_check_class := c_check_class (P := P) (w := w) (base := base) T h_check_class F_check_class k_has_class_form k_is_row k_is_some_row
  have k_raised := c_raised (P := P) (w := w) (base := base) T h_raised F_raised 
  have k_corners_of := c_corners_of (P := P) (w := w) (base := base) T h_corners_of F_corners_of k_raised
  have k_corners := c_corners (P := P) (w := w) (base := base) T h_corners F_corners k_check_class k_corners_of
  have k_is_fraction := c_is_fraction (P := P) (w := w) (base := base) T h_is_fraction F_is_fraction k_is_number k_is_row
  have k_is_from_zero := c_is_from_zero (P := P) (w := w) (base := base) T h_is_from_zero F_is_from_zero k_is_fraction
  have k_check_readings := c_check_readings (P := P) (w := w) (base := base) T h_check_readings F_check_readings k_is_from_zero k_is_row
  have k_reduced := c_reduced (P := P) (w := w) (base := base) T h_reduced F_reduced 
  have k_difference_of := c_difference_of (P := P) (w := w) (base := base) T h_difference_of F_difference_of k_reduced
  have k_rises := c_rises (P := P) (w := w) (base := base) T h_rises F_rises k_difference_of
  have k_rests_by := c_rests_by (P := P) (w := w) (base := base) T h_rests_by F_rests_by k_difference_of k_rises
  have k_parts := c_parts (P := P) (w := w) (base := base) T h_parts F_parts k_check_class k_check_readings k_rests_by k_rises
  have k_sum_of := c_sum_of (P := P) (w := w) (base := base) T h_sum_of F_sum_of k_reduced
  have k_total_of := c_total_of (P := P) (w := w) (base := base) T h_total_of F_total_of k_sum_of
  have k_are_fractions := c_are_fractions (P := P) (w := w) (base := base) T h_are_fractions F_are_fractions k_is_fraction
  have k_are_weights := c_are_weights (P := P) (w := w) (base := base) T h_are_weights F_are_weights k_are_fractions k_total_of
  have k_check_weights := c_check_weights (P := P) (w := w) (base := base) T h_check_weights F_check_weights k_are_weights
  have k_readings_at := c_readings_at (P := P) (w := w) (base := base) T h_readings_at F_readings_at k_sum_of
  have k_point := c_point (P := P) (w := w) (base := base) T h_point F_point k_check_class k_check_weights k_readings_at k_sum_of
  have k__law_roll := c__law_roll (P := P) (w := w) (base := base) T h__law_roll F__law_roll 
  have k__law_pick := c__law_pick (P := P) (w := w) (base := base) T h__law_pick F__law_pick k__law_roll
  have k__law_co_class := c__law_co_class (P := P) (w := w) (base := base) T h__law_co_class F__law_co_class k__law_pick k__law_roll
  have k__law_co_corners := c__law_co_corners (P := P) (w := w) (base := base) T h__law_co_corners F__law_co_corners 
  have k__law_co_some := c__law_co_some (P := P) (w := w) (base := base) T h__law_co_some F__law_co_some k__law_pick k__law_roll
  have k__law_co_low := c__law_co_low (P := P) (w := w) (base := base) T h__law_co_low F__law_co_low 
  have k__law_co_told := c__law_co_told (P := P) (w := w) (base := base) T h__law_co_told F__law_co_told k__law_co_low
  have k__law_co_tops := c__law_co_tops (P := P) (w := w) (base := base) T h__law_co_tops F__law_co_tops 
  have k__law_co_parts := c__law_co_parts (P := P) (w := w) (base := base) T h__law_co_parts F__law_co_parts k__law_co_low
  have k_order_of := c_order_of (P := P) (w := w) (base := base) T h_order_of F_order_of 
  have k_check_low := c_check_low (P := P) (w := w) (base := base) T h_check_low F_check_low k_order_of
  have k_is_by := c_is_by (P := P) (w := w) (base := base) T h_is_by F_is_by k_check_class k_check_low k_check_readings k_rests_by
  have k__law_own_parts := c__law_own_parts (P := P) (w := w) (base := base) T h__law_own_parts F__law_own_parts 
  have k__law_near_right := c__law_near_right (P := P) (w := w) (base := base) T h__law_near_right F__law_near_right k__law_co_low k__law_co_told k__law_own_parts k__law_pick k__law_roll k_is_by k_parts
  have k_check_some_readings := c_check_some_readings (P := P) (w := w) (base := base) T h_check_some_readings F_check_some_readings k_check_readings k_is_some_row
  have k_whole_of := c_whole_of (P := P) (w := w) (base := base) T h_whole_of F_whole_of 
  have k_class_with := c_class_with (P := P) (w := w) (base := base) T h_class_with F_class_with k_whole_of
  have k_class_of := c_class_of (P := P) (w := w) (base := base) T h_class_of F_class_of k_check_low k_check_some_readings k_class_with
  have k__law_right := c__law_right (P := P) (w := w) (base := base) T h__law_right F__law_right k__law_co_class k__law_co_corners k__law_co_parts k__law_co_some k__law_co_told k__law_co_tops k__law_near_right k__law_roll k_class_of k_corners k_is_by k_parts k_point
  exact law_fn T F k__law_dice k__law_right k_corners k_parts k_point
end MR
open PySem PySem.W PySem.Calls PyProof.Rows
theorem PySem.Challenge.cw_anymargin_k12_whole_corners_and_weights_holds : PySem.Challenge.rw_anymargin_k12_whole_corners_and_weights.Holds := by
  w_on; o_law
  refine HandSHeadRun.head_imp (r := OpenLaw.row PySem.Challenge.rw_anymargin_k12_whole_corners_and_weights) (q := view (OpenLaw.row PySem.Challenge.rw_anymargin_k12_whole_corners_and_weights).prog [0, 63]) (H := MR.hk) (ob := MR.ob) (M := 3000) (loose := MR.loose) (d := HandSHeadRun.topDef (OpenLaw.row PySem.Challenge.rw_anymargin_k12_whole_corners_and_weights).prog 63) (kwd := []) MR.ob_eq
    MR.run (by kernel_rfl) (by kernel_rfl) (by kernel_rfl) (by rfl) (by first | assumption | decide +kernel) (by decide +kernel) ⟨rfl, rfl, rfl, rfl, rfl, by decide +kernel⟩ ?hw ?hc
  case hw => w_witness2
  case hc =>
    refine L2.walk_ofE (l := PySem.Challenge.rw_anymargin_k12_whole_corners_and_weights) (n := 63) (k := 9) (x := "script") (CX := L2.CX0) rfl (by decide) (by kernel_rfl) ⟨rfl, by decide, by decide⟩ ?F (fun _ _ _ _ z => z)
    intro w mg fa h Y G hmg0
    obtain ⟨K, KX, c⟩ := Y
    have hmg : mg ("law" : PySem.Str) = some (.ref fa) := by
      have e : (HandSHeadRun.topDef (OpenLaw.row PySem.Challenge.rw_anymargin_k12_whole_corners_and_weights).prog 63).name = ("law" : PySem.Str) := by kernel_rfl
      rw [← e]
      exact hmg0
    obtain ⟨fd, hb, hF⟩ := MR.facts (P := (PySem.Challenge.rw_anymargin_k12_whole_corners_and_weights).prog) (w := w) KX G hmg c.t.d c.more
    refine ⟨K, fd, MR.spL K, KX, hb, fun H a ns hl hO hS => ?_, hF⟩
    obtain ⟨μ', e⟩ := MR.law_true ns hl
    exact VL.law_start (fun p hp => absurd hp (List.not_mem_nil)) hS e
end
