import PyProof.Rows.All
import HandS.ForMost
import HandS.Gcd
import HandS.Wide
import HandS.WideMore
import HandS.IsInst
import HandS.Zip
import HandS.TupAny
import HandS.Deep
import HandS.Conv
import HandS.Flow
import HandS.Defaults
import HandS.Rev
import HandS.RaiseMore
import PyProof.CallFns
import KE.DataEq
import HandS.Lambda
import HandS.HeadHook1
import HandS.Style
import HandS.Sort
import HandS.TupMul
import KE.DataMinMax
import HandS.SortInts
import HandS.ExcOwn
import HandS.ExcInit
import HandS.TryMany
import HandS.CallSlots
import HandS.CallLocal
import PyProof.ExcBaseAll.IndexError
import PyProof.ExcBaseAll.ArithmeticError
import PyProof.ExcBaseAll.OverflowError
import PyProof.ExcBaseAll.LookupError
import HandS.SetFor
import HandS.Strs
import HandS.SortRule
import KE.GoesEnum
import KE.KMathG
import PyProof.ReprRoads
import HandS.EndTab
import HandS.HeadWalk
import HandS.HeadHook4
import HandS.NestedK
import KE.SortData
import HandS.Dict
import HandS.Property
import HandS.HeadNt
import HandS.SetBool
import HandS.SetKeys
import KE.KDictZip
import HandS.MapObj
import PyProof.TupleOfGen
import PySem.Challenge.RW_anymargin_k59_errors_of_ticking_runs
import KE.KStateDown
import HandS.Head0
import HandS.Head1
import HandS.Head2
import HandS.Head3
import HandS.HeadEnd
import HandS.HeadHook2
import HandS.HeadHook3
section
set_option Elab.async false
set_option linter.all false
set_option maxRecDepth 100000
namespace VL
open PySem PySem.Spec PyProof.Rows L2
/-- the tables of code objects that the defs with lambdas have -/
class LawTabs where
  T : PySem.W.Frag → List (Addr × Str)
variable [LawTabs]

/-- a value as it is reckoned with: data; a list that is changed (its number); a list of ints from outside; a range -/
inductive Vw where
  | d (p : PyData)
  | loc (n : Nat)
  | kl (ns : List Int)
  | rg (lo hi : Int)
abbrev Rho := List (Option Vw)
abbrev Mu := List (List PyData)

/-- a dict with content, of which nothing is asked -/
abbrev dictD : List (PyData × PyData) := [(.str "dict", .none)]
def DkO (H : Hp) (a : Addr) : Prop := (∃ xs, H a = some (.dK xs)) ∨ ∃ xs, H a = some (.dT xs)
mutual
def Da (K : PySem.W.Frag) (φ : List Addr) (H : Hp) : PyData → V → Prop
  | .none, v => v = .non
  | .bool b, v => v = .bl b
  | .int i, v => v = .int i
  | .str x, v => v = .str x
  | .list ds, v => ∃ a xs, v = .ref a ∧ a ∉ φ ∧ H a = some (.lst xs) ∧ DaAll K φ H ds xs
  | .tuple ds, v => ∃ a xs, v = .ref a ∧ SqT K H a xs ∧ DaAll K φ H ds xs
  | .dict kvs, v => (kvs = [] ∧ ∃ a, v = .ref a ∧ a ∉ φ ∧ H a = some (.dK [])) ∨ (∃ x, kvs = [(.str "def", .str x)] ∧ v = .ref (He.ga K x)) ∨ (kvs = dictD ∧ ∃ a, v = .ref a ∧ DkO H a) ∨ DaOb K φ H kvs v
/-- an object: its class, its fields -/
def DaOb (K : PySem.W.Frag) (φ : List Addr) (H : Hp) : List (PyData × PyData) → V → Prop
  | [], _ => False
  | (k, d) :: r, v => ∃ C a dx xs, k = .str "ob" ∧ d = .str C ∧ v = .ref a ∧ a ∉ φ ∧ H a = some (.ins (He.ga K C) dx xs) ∧ DaFs K φ H r xs
def DaFs (K : PySem.W.Frag) (φ : List Addr) (H : Hp) : List (PyData × PyData) → List (Str × V) → Prop
  | [], xs => xs = []
  | (k, d) :: r, xs => ∃ f v ys, k = .str f ∧ xs = (f, v) :: ys ∧ Da K φ H d v ∧ DaFs K φ H r ys
def DaAll (K : PySem.W.Frag) (φ : List Addr) (H : Hp) : List PyData → List V → Prop
  | [], xs => xs = []
  | d :: ds, xs => ∃ v vs, xs = v :: vs ∧ Da K φ H d v ∧ DaAll K φ H ds vs
end
def KL (K : PySem.W.Frag) (A : List Addr) (H : Hp) (a : Addr) (xs : List V) : Prop :=
  (∃ o, H a = some (.frz o (.lst xs))) ∨ (a ∉ A ∧ H a = some (.lst xs)) ∨
    ∃ (o : Obj) (its : Array Value) (n : Nat), K.lookup a = some o ∧ o.cls = .type "list" ∧ o.dict = none ∧ o.data = .seq its n ∧ its.size ≤ sizeLine ∧ Vals xs its.toList
theorem KL.sq {K : PySem.W.Frag} {A : List Addr} {H : Hp} {a : Addr} {xs : List V} (h : KL K A H a xs) : SqL K H a xs := by
  rcases h with ⟨o, h⟩ | ⟨_, h⟩ | h
  · exact .inl (.inr ⟨o, h⟩)
  · exact .inl (.inl h)
  · exact .inr h
/-- places: those to be left alone, those of the changed lists -/
abbrev Ph := List Addr × List Addr
def Ph.av (φ : Ph) : List Addr := φ.1 ++ φ.2
/-- a value as it lies -/
def RV (K : PySem.W.Frag) (φ : Ph) (H : Hp) : Vw → V → Prop
  | .d p, v => Da K φ.av H p v
  | .loc n, v => ∃ a, φ.2[n]? = some a ∧ v = .ref a
  | .kl ns, v => ∃ a, v = .ref a ∧ KL K φ.av H a (ns.map V.int)
  | .rg lo hi, v => ∃ a, v = .ref a ∧ H a = some (.rng lo hi)
def RVs (K : PySem.W.Frag) (φ : Ph) (H : Hp) : List Vw → List V → Prop
  | [], xs => xs = []
  | d :: ds, xs => ∃ v vs, xs = v :: vs ∧ RV K φ H d v ∧ RVs K φ H ds vs

/-- what comes later: more changed lists, all else as it was -/
structure Grow (φ φ' : Ph) (H H' : Hp) : Prop where
  fst : ∃ χ, φ'.1 = φ.1 ++ χ ∧ ∀ a ∈ χ, H a = none
  pre : ∃ ψ, φ'.2 = φ.2 ++ ψ ∧ ∀ a ∈ ψ, H a = none
  ext : ∀ a o, H a = some o → (a ∈ φ.2 → ∀ xs, o ≠ .lst xs) → (∀ ps, o ≠ .tbl ps) → H' a = some o
  live : ∀ a, H' a = none → H a = none
structure Cells (K : PySem.W.Frag) (φ : Ph) (H : Hp) (μ : Mu) : Prop where
  nd : φ.2.Nodup
  len : φ.2.length = μ.length
  at_ : ∀ (n : Nat) (a : Addr) (ds : List PyData), φ.2[n]? = some a → μ[n]? = some ds → ∃ xs, H a = some (.lst xs) ∧ DaAll K φ.av H ds xs
  tr : ∀ a ∈ φ.1, H a ≠ none
  tb : LamX.Tabs (LawTabs.T K) H
structure RS (K : PySem.W.Frag) (φ : Ph) (σ : L2.St) (H : Hp) (ρ : Rho) (μ : Mu) : Prop where
  c : Cells K φ H μ
  len : σ.length = ρ.length
  at_ : ∀ (i : Nat) (w : Vw), ρ[i]? = some (some w) → ∃ v, σ[i]? = some (some v) ∧ RV K φ H w v

section
variable {K : PySem.W.Frag} {φ φ' φ'' : Ph} {A A' : List Addr} {H H' H'' : Hp}
theorem Grow.refl (φ : Ph) (H : Hp) : Grow φ φ H H := ⟨⟨[], by simp, by simp⟩, ⟨[], by simp, by simp⟩, fun _ _ h _ _ => h, fun _ h => h⟩
theorem Grow.trans (g : Grow φ φ' H H') (g' : Grow φ' φ'' H' H'') : Grow φ φ'' H H'' := by
  obtain ⟨⟨ψ', q1, hψ'⟩, ⟨ψ, p1, hψ⟩, e1, l1⟩ := g
  obtain ⟨⟨χ', q2, hχ'⟩, ⟨χ, p2, hχ⟩, e2, l2⟩ := g'
  refine ⟨⟨ψ' ++ χ', by rw [q2, q1, List.append_assoc], fun a ha => (List.mem_append.mp ha).elim (hψ' a) fun z => l1 a (hχ' a z)⟩, ⟨ψ ++ χ, by rw [p2, p1, List.append_assoc], fun a ha => ?_⟩, fun a o h hn nt => ?_, fun a h => l1 a (l2 a h)⟩
  · rcases List.mem_append.mp ha with ha | ha
    · exact hψ a ha
    · exact l1 a (hχ a ha)
  · have h1 := e1 a o h hn nt
    refine e2 a o h1 (fun hm => ?_) nt
    rw [p1] at hm
    rcases List.mem_append.mp hm with hm | hm
    · exact hn hm
    · rw [hψ a hm] at h; cases h
/-- a new object is laid -/
theorem Grow.laid {p : Addr} {o : HO} (hp : H p = none) : Grow φ φ H (upd H p o) := by
  refine ⟨⟨[], by simp, by simp⟩, ⟨[], by simp, by simp⟩, fun a u h _ _ => ?_, fun a h => ?_⟩
  · rw [upd_ne (ne_of_none h hp)]; exact h
  · by_cases e : a = p
    · rw [e]; exact hp
    · rw [upd_ne e] at h; exact h
/-- .. as a changed list -/
theorem Grow.cell {p : Addr} {o : HO} (hp : H p = none) : Grow φ (φ.1, φ.2 ++ [p]) H (upd H p o) := by
  refine ⟨⟨[], by simp, by simp⟩, ⟨[p], rfl, fun a ha => ?_⟩, fun a u h _ _ => ?_, fun a h => ?_⟩
  · rw [List.mem_singleton.mp ha]; exact hp
  · rw [upd_ne (ne_of_none h hp)]; exact h
  · by_cases e : a = p
    · rw [e]; exact hp
    · rw [upd_ne e] at h; exact h
/-- .. where lists that are left alone may be written, too -/
structure GrowW (φ φ' : Ph) (H H' : Hp) : Prop where
  fst : ∃ χ, φ'.1 = φ.1 ++ χ ∧ ∀ a ∈ χ, H a = none
  pre : ∃ ψ, φ'.2 = φ.2 ++ ψ ∧ ∀ a ∈ ψ, H a = none
  ext : ∀ a o, H a = some o → (a ∈ φ.av → ∀ xs, o ≠ .lst xs) → (∀ ps, o ≠ .tbl ps) → H' a = some o
  live : ∀ a, H' a = none → H a = none
theorem Grow.w (g : Grow φ φ' H H') : GrowW φ φ' H H' := ⟨g.fst, g.pre, fun a o h hn nt => g.ext a o h (fun z => hn (List.mem_append_right _ z)) nt, g.live⟩
instance : Coe (Grow φ φ' H H') (GrowW φ φ' H H') := ⟨Grow.w⟩
theorem GrowW.trans (g : GrowW φ φ' H H') (g' : GrowW φ' φ'' H' H'') : GrowW φ φ'' H H'' := by
  obtain ⟨⟨ψ', q1, hψ'⟩, ⟨ψ, p1, hψ⟩, e1, l1⟩ := g
  obtain ⟨⟨χ', q2, hχ'⟩, ⟨χ, p2, hχ⟩, e2, l2⟩ := g'
  refine ⟨⟨ψ' ++ χ', by rw [q2, q1, List.append_assoc], fun a ha => (List.mem_append.mp ha).elim (hψ' a) fun z => l1 a (hχ' a z)⟩, ⟨ψ ++ χ, by rw [p2, p1, List.append_assoc], fun a ha => (List.mem_append.mp ha).elim (hψ a) fun z => l1 a (hχ a z)⟩, fun a o h hn nt => ?_, fun a h => l1 a (l2 a h)⟩
  refine e2 a o (e1 a o h hn nt) (fun hm => ?_) nt
  rcases List.mem_append.mp hm with hm | hm
  · rw [q1] at hm
    rcases List.mem_append.mp hm with hm | hm
    · exact hn (List.mem_append_left _ hm)
    · rw [hψ' a hm] at h; cases h
  · rw [p1] at hm
    rcases List.mem_append.mp hm with hm | hm
    · exact hn (List.mem_append_right _ hm)
    · rw [hψ a hm] at h; cases h
theorem GrowW.wr {D : Addr} {zs ys : List V} (hD : D ∈ φ.1) (hl : H D = some (.lst zs)) : GrowW φ φ H (upd H D (.lst ys)) := by
  refine ⟨⟨[], by simp, by simp⟩, ⟨[], by simp, by simp⟩, fun a o h hn nt => ?_, fun a h => ?_⟩
  · by_cases e : a = D
    · subst e; rw [hl] at h; cases h; exact absurd rfl (hn (List.mem_append_left _ hD) zs)
    · rw [upd_ne e]; exact h
  · by_cases e : a = D
    · subst e; rw [upd_same] at h; cases h
    · rw [upd_ne e] at h; exact h
theorem GrowW.rd (g : GrowW φ φ' H H') {a : Addr} {o : HO} (h : Rd H a o) (hn : a ∈ φ.av → ∀ xs, o ≠ .lst xs) (nt : ∀ ps, o ≠ .tbl ps) : Rd H' a o := by
  rcases h with h | ⟨ob, h⟩
  · exact .inl (g.ext a o h hn nt)
  · exact .inr ⟨ob, g.ext a _ h (fun _ xs z => by cases z) fun ps z => by cases z⟩
theorem GrowW.sqT (g : GrowW φ φ' H H') {a : Addr} {xs : List V} (h : SqT K H a xs) : SqT K H' a xs := by
  rcases h with h | h
  · exact .inl (g.rd h (fun _ ys z => by cases z) fun ps z => by cases z)
  · exact .inr h
theorem Grow.sqT (g : Grow φ φ' H H') {a : Addr} {xs : List V} (h : SqT K H a xs) : SqT K H' a xs := g.w.sqT h
theorem GrowW.out (g : GrowW φ φ' H H') {a : Addr} (h : H a ≠ none) (hn : a ∉ φ.av) : a ∉ φ'.av := by
  obtain ⟨⟨χ, f, hχ⟩, ⟨ψ, p, hψ⟩, _, _⟩ := g
  intro hm
  rcases List.mem_append.mp hm with hm | hm
  · rw [f] at hm
    rcases List.mem_append.mp hm with hm | hm
    · exact hn (List.mem_append_left _ hm)
    · exact h (hχ a hm)
  · rw [p] at hm
    rcases List.mem_append.mp hm with hm | hm
    · exact hn (List.mem_append_right _ hm)
    · exact h (hψ a hm)
theorem Grow.out (g : Grow φ φ' H H') {a : Addr} (h : H a ≠ none) (hn : a ∉ φ.av) : a ∉ φ'.av := g.w.out h hn
theorem Grow.out2 (g : Grow φ φ' H H') {a : Addr} (h : H a ≠ none) (hn : a ∉ φ.2) : a ∉ φ'.2 := by
  obtain ⟨f, ⟨ψ, p, hψ⟩, _, _⟩ := g
  intro hm
  rw [p] at hm
  rcases List.mem_append.mp hm with hm | hm
  · exact hn hm
  · exact h (hψ a hm)
theorem av2 {a : Addr} (hn : a ∉ φ.av) : a ∉ φ.2 := fun z => hn (List.mem_append_right _ z)
theorem GrowW.kl (g : GrowW φ φ' H H') {a : Addr} {xs : List V} (h : KL K φ.av H a xs) : KL K φ'.av H' a xs := by
  rcases h with ⟨o, h⟩ | ⟨hn, h⟩ | h
  · exact .inl ⟨o, g.ext a _ h (fun _ ys z => by cases z) fun ps z => by cases z⟩
  · exact .inr (.inl ⟨g.out (by rw [h]; simp) hn, g.ext a _ h (fun z => absurd z hn) fun ps z => by cases z⟩)
  · exact .inr (.inr h)
theorem Grow.kl (g : Grow φ φ' H H') {a : Addr} {xs : List V} (h : KL K φ.av H a xs) : KL K φ'.av H' a xs := g.w.kl h
theorem KL.weak {A A' : List Addr} {a : Addr} {xs : List V} (hs : ∀ b ∈ A, b ∈ A') (h : KL K A' H a xs) : KL K A H a xs := by
  rcases h with h | ⟨hn, h⟩ | h
  · exact .inl h
  · exact .inr (.inl ⟨fun z => hn (hs _ z), h⟩)
  · exact .inr (.inr h)
theorem DkO.step (g : GrowW φ φ' H H') {a : Addr} (h : DkO H a) : DkO H' a := by
  rcases h with ⟨xs, h⟩ | ⟨xs, h⟩
  · exact .inl ⟨xs, g.ext a _ h (fun _ ys z => by cases z) fun ps z => by cases z⟩
  · exact .inr ⟨xs, g.ext a _ h (fun _ ys z => by cases z) fun ps z => by cases z⟩
mutual
theorem Da.step (g : GrowW φ φ' H H') : ∀ (p : PyData) (v : V), Da K φ.av H p v → Da K φ'.av H' p v
  | .none, _, h => h
  | .bool _, _, h => h
  | .int _, _, h => h
  | .str _, _, h => h
  | .list ds, _, ⟨a, xs, e, hn, h, hs⟩ => ⟨a, xs, e, g.out (by rw [h]; simp) hn, g.ext a _ h (fun z => absurd z hn) (fun ps z => by cases z), DaAll.step g ds xs hs⟩
  | .tuple ds, _, ⟨a, xs, e, h, hs⟩ => ⟨a, xs, e, g.sqT h, DaAll.step g ds xs hs⟩
  | .dict kvs, _, .inl ⟨z, a, e, hn, h⟩ => .inl ⟨z, a, e, g.out (by rw [h]; simp) hn, g.ext a _ h (fun z => absurd z hn) fun ps z => by cases z⟩
  | .dict kvs, _, .inr (.inl h) => .inr (.inl h)
  | .dict kvs, _, .inr (.inr (.inl ⟨z, a, e, h⟩)) => .inr (.inr (.inl ⟨z, a, e, DkO.step g h⟩))
  | .dict kvs, _, .inr (.inr (.inr h)) => .inr (.inr (.inr (DaOb.step g kvs _ h)))
theorem DaOb.step (g : GrowW φ φ' H H') : ∀ (kvs : List (PyData × PyData)) (v : V), DaOb K φ.av H kvs v → DaOb K φ'.av H' kvs v
  | [], _, h => h
  | (k, d) :: r, _, ⟨C, a, dx, xs, ek, ed, e, hn, h, hs⟩ => ⟨C, a, dx, xs, ek, ed, e, g.out (by rw [h]; simp) hn, g.ext a _ h (fun z => absurd z hn) (fun ps z => by cases z), DaFs.step g r xs hs⟩
theorem DaFs.step (g : GrowW φ φ' H H') : ∀ (kvs : List (PyData × PyData)) (xs : List (Str × V)), DaFs K φ.av H kvs xs → DaFs K φ'.av H' kvs xs
  | [], _, h => h
  | (k, d) :: r, _, ⟨f, v, ys, ek, e, h, hs⟩ => ⟨f, v, ys, ek, e, Da.step g d v h, DaFs.step g r ys hs⟩
theorem DaAll.step (g : GrowW φ φ' H H') : ∀ (ds : List PyData) (xs : List V), DaAll K φ.av H ds xs → DaAll K φ'.av H' ds xs
  | [], _, h => h
  | d :: ds, _, ⟨v, vs, e, h, hs⟩ => ⟨v, vs, e, Da.step g d v h, DaAll.step g ds vs hs⟩
end
mutual
theorem Da.weak (hs : ∀ a ∈ A, a ∈ A') : ∀ (p : PyData) (v : V), Da K A' H p v → Da K A H p v
  | .none, _, h => h
  | .bool _, _, h => h
  | .int _, _, h => h
  | .str _, _, h => h
  | .list ds, _, ⟨a, xs, e, hn, h, hq⟩ => ⟨a, xs, e, fun z => hn (hs a z), h, DaAll.weak hs ds xs hq⟩
  | .tuple ds, _, ⟨a, xs, e, h, hq⟩ => ⟨a, xs, e, h, DaAll.weak hs ds xs hq⟩
  | .dict kvs, _, .inl ⟨z, a, e, hn, h⟩ => .inl ⟨z, a, e, fun z => hn (hs a z), h⟩
  | .dict kvs, _, .inr (.inl h) => .inr (.inl h)
  | .dict kvs, _, .inr (.inr (.inl h)) => .inr (.inr (.inl h))
  | .dict kvs, _, .inr (.inr (.inr h)) => .inr (.inr (.inr (DaOb.weak hs kvs _ h)))
theorem DaOb.weak (hs : ∀ a ∈ A, a ∈ A') : ∀ (kvs : List (PyData × PyData)) (v : V), DaOb K A' H kvs v → DaOb K A H kvs v
  | [], _, h => h
  | (k, d) :: r, _, ⟨C, a, dx, xs, ek, ed, e, hn, h, hq⟩ => ⟨C, a, dx, xs, ek, ed, e, fun z => hn (hs a z), h, DaFs.weak hs r xs hq⟩
theorem DaFs.weak (hs : ∀ a ∈ A, a ∈ A') : ∀ (kvs : List (PyData × PyData)) (xs : List (Str × V)), DaFs K A' H kvs xs → DaFs K A H kvs xs
  | [], _, h => h
  | (k, d) :: r, _, ⟨f, v, ys, ek, e, h, hq⟩ => ⟨f, v, ys, ek, e, Da.weak hs d v h, DaFs.weak hs r ys hq⟩
theorem DaAll.weak (hs : ∀ a ∈ A, a ∈ A') : ∀ (ds : List PyData) (xs : List V), DaAll K A' H ds xs → DaAll K A H ds xs
  | [], _, h => h
  | d :: ds, _, ⟨v, vs, e, h, hq⟩ => ⟨v, vs, e, Da.weak hs d v h, DaAll.weak hs ds vs hq⟩
end
theorem Da.dictRef {kvs : List (PyData × PyData)} {v : V} (h : Da K A H (.dict kvs) v) : ∃ a, v = .ref a := by
  rcases h with ⟨_, a, e, _⟩ | ⟨x, _, e⟩ | ⟨_, a, e, _⟩ | h
  · exact ⟨a, e⟩
  · exact ⟨_, e⟩
  · exact ⟨a, e⟩
  · match kvs, h with
    | (k, d) :: r, ⟨C, a, dx, xs, _, _, e, _⟩ => exact ⟨a, e⟩
theorem Da.defRef {x : Str} {v : V} (h : Da K A H (.dict [(.str "def", .str x)]) v) : v = .ref (He.ga K x) := by
  rcases h with ⟨z, _⟩ | ⟨y, z, e⟩ | ⟨z, _⟩ | ⟨C, a, dx, xs, z, _⟩
  · cases z
  · cases z; exact e
  · simp at z
  · have z' : ("def" : Str) = "ob" := by injection z
    exact absurd z' (by decide)
theorem RV.step (g : GrowW φ φ' H H') : ∀ (w : Vw) (v : V), RV K φ H w v → RV K φ' H' w v
  | .d p, v, h => Da.step g p v h
  | .loc n, v, ⟨a, h, e⟩ => by
    obtain ⟨_, ⟨ψ, p, _⟩, _, _⟩ := g
    exact ⟨a, by rw [p, List.getElem?_append_left (List.getElem?_eq_some_iff.mp h).1]; exact h, e⟩
  | .kl ns, v, ⟨a, e, h⟩ => ⟨a, e, g.kl h⟩
  | .rg lo hi, v, ⟨a, e, h⟩ => ⟨a, e, g.ext a _ h (fun _ ys z => by cases z) fun ps z => by cases z⟩
theorem RVs.step (g : GrowW φ φ' H H') : ∀ (ws : List Vw) (vs : List V), RVs K φ H ws vs → RVs K φ' H' ws vs
  | [], _, h => h
  | w :: ws, _, ⟨v, vs, e, h, hs⟩ => ⟨v, vs, e, RV.step g w v h, RVs.step g ws vs hs⟩
theorem DaAll.len : ∀ {ds : List PyData} {xs : List V}, DaAll K A H ds xs → ds.length = xs.length
  | [], _, h => by rw [show _ = _ from h]; rfl
  | _ :: ds, _, ⟨v, vs, e, _, hs⟩ => by rw [e, List.length_cons, List.length_cons, DaAll.len hs]
theorem DaAll.get : ∀ {ds : List PyData} {xs : List V} {i : Nat} {d : PyData}, DaAll K A H ds xs → ds[i]? = some d → ∃ v, xs[i]? = some v ∧ Da K A H d v
  | [], _, _, _, _, e => by simp at e
  | d :: ds, _, 0, _, ⟨v, vs, e, h, _⟩, q => by
    simp at q; subst q; exact ⟨v, by rw [e]; rfl, h⟩
  | d :: ds, _, i + 1, _, ⟨v, vs, e, _, hs⟩, q => by
    obtain ⟨u, h1, h2⟩ := DaAll.get (i := i) hs (by simpa using q)
    exact ⟨u, by rw [e]; simpa using h1, h2⟩
theorem DaAll.append : ∀ {ds es : List PyData} {xs ys : List V}, DaAll K A H ds xs → DaAll K A H es ys → DaAll K A H (ds ++ es) (xs ++ ys)
  | [], _, _, _, h, h' => by rw [show _ = _ from h]; exact h'
  | _ :: ds, _, _, _, ⟨v, vs, e, h, hs⟩, h' => ⟨v, vs ++ _, by rw [e]; rfl, h, DaAll.append hs h'⟩
theorem DaAll.take : ∀ {ds : List PyData} {xs : List V} (n : Nat), DaAll K A H ds xs → DaAll K A H (ds.take n) (xs.take n)
  | [], _, n, h => by rw [show _ = _ from h]; simp [DaAll]
  | _ :: _, _, 0, ⟨v, vs, e, _, _⟩ => by simp [DaAll]
  | _ :: ds, _, n + 1, ⟨v, vs, e, h, hs⟩ => ⟨v, vs.take n, by rw [e]; rfl, h, DaAll.take n hs⟩
theorem DaAll.drop : ∀ {ds : List PyData} {xs : List V} (n : Nat), DaAll K A H ds xs → DaAll K A H (ds.drop n) (xs.drop n)
  | [], _, n, h => by rw [show _ = _ from h]; simp [DaAll]
  | d :: ds, _, 0, h => h
  | _ :: ds, _, n + 1, ⟨v, vs, e, h, hs⟩ => by rw [e]; exact DaAll.drop n hs
theorem DaAll.set {d : PyData} {v : V} (h : Da K A H d v) : ∀ {ds : List PyData} {xs : List V} (n : Nat), DaAll K A H ds xs → DaAll K A H (ds.set n d) (xs.set n v)
  | [], _, n, hs => by rw [show _ = _ from hs]; simp [DaAll]
  | _ :: _, _, 0, ⟨u, us, e, _, hs⟩ => by rw [e]; exact ⟨v, us, rfl, h, hs⟩
  | _ :: ds, _, n + 1, ⟨u, us, e, hu, hs⟩ => by rw [e]; exact ⟨u, us.set n v, rfl, hu, DaAll.set h n hs⟩
theorem DaAll.ints : ∀ (ns : List Int), DaAll K A H (ns.map PyData.int) (ns.map V.int)
  | [] => rfl
  | n :: ns => ⟨_, _, rfl, rfl, DaAll.ints ns⟩
theorem RVs.len : ∀ {ds : List Vw} {xs : List V}, RVs K φ H ds xs → ds.length = xs.length
  | [], _, h => by rw [show _ = _ from h]; rfl
  | _ :: ds, _, ⟨v, vs, e, _, hs⟩ => by rw [e, List.length_cons, List.length_cons, RVs.len hs]
theorem RVs.get : ∀ {ds : List Vw} {xs : List V} {i : Nat} {d : Vw}, RVs K φ H ds xs → ds[i]? = some d → ∃ v, xs[i]? = some v ∧ RV K φ H d v
  | [], _, _, _, _, e => by simp at e
  | d :: ds, _, 0, _, ⟨v, vs, e, h, _⟩, q => by
    simp at q; subst q; exact ⟨v, by rw [e]; rfl, h⟩
  | d :: ds, _, i + 1, _, ⟨v, vs, e, _, hs⟩, q => by
    obtain ⟨u, h1, h2⟩ := RVs.get (i := i) hs (by simpa using q)
    exact ⟨u, by rw [e]; simpa using h1, h2⟩
/-! a list, an object that is left alone is written -/
def WrO : HO → Prop
  | .lst _ => True
  | .ins _ _ _ => True
  | _ => False
def NwO : HO → Prop
  | .lst _ => False
  | .ins _ _ _ => False
  | _ => True
theorem WrO.ne {o o' : HO} {a D : Addr} (ho : WrO o) (hl : H D = some o) (h : H a = some o') (hw : NwO o') : a ≠ D := fun z => by
  subst z
  rw [hl] at h
  cases h
  cases o <;> first | exact hw | exact ho
theorem WrO.tab {o : HO} {a D : Addr} {o' : HO} (ho : WrO o) (hl : H D = some o) (h : H a = some o') (hw : NwO o') : a ≠ D := ho.ne hl h hw
mutual
theorem Da.wr {D : Addr} {o o' : HO} (hD : D ∈ A) (hl : H D = some o) (ho : WrO o) : ∀ (p : PyData) (v : V), Da K A H p v → Da K A (L2.upd H D o') p v
  | .none, _, h => h
  | .bool _, _, h => h
  | .int _, _, h => h
  | .str _, _, h => h
  | .list ds, _, ⟨a, xs, e, hn, h, hs⟩ => ⟨a, xs, e, hn, by rw [L2.upd_ne (show a ≠ D from fun z => hn (by rw [z]; exact hD))]; exact h, DaAll.wr hD hl ho ds xs hs⟩
  | .tuple ds, _, ⟨a, xs, e, h, hs⟩ => ⟨a, xs, e, by
      rcases h with (h | ⟨o, h⟩) | h
      · exact .inl (.inl (by rw [upd_ne (ho.ne hl h trivial)]; exact h))
      · exact .inl (.inr ⟨o, by rw [upd_ne (ho.ne hl h trivial)]; exact h⟩)
      · exact .inr h, DaAll.wr hD hl ho ds xs hs⟩
  | .dict kvs, _, .inr (.inl h) => .inr (.inl h)
  | .dict kvs, _, .inr (.inr (.inl ⟨z, a, e, h⟩)) => .inr (.inr (.inl ⟨z, a, e, by
      rcases h with ⟨xs, h⟩ | ⟨xs, h⟩
      · exact .inl ⟨xs, by rw [upd_ne (ho.ne hl h trivial)]; exact h⟩
      · exact .inr ⟨xs, by rw [upd_ne (ho.ne hl h trivial)]; exact h⟩⟩))
  | .dict kvs, _, .inr (.inr (.inr h)) => .inr (.inr (.inr (DaOb.wr hD hl ho kvs _ h)))
  | .dict kvs, _, .inl ⟨z, a, e, hn, h⟩ => .inl ⟨z, a, e, hn, by rw [L2.upd_ne (show a ≠ D from fun z => hn (by rw [z]; exact hD))]; exact h⟩
theorem DaOb.wr {D : Addr} {o o' : HO} (hD : D ∈ A) (hl : H D = some o) (ho : WrO o) : ∀ (kvs : List (PyData × PyData)) (v : V), DaOb K A H kvs v → DaOb K A (L2.upd H D o') kvs v
  | [], _, h => h
  | (k, d) :: r, _, ⟨C, a, dx, xs, ek, ed, e, hn, h, hq⟩ => ⟨C, a, dx, xs, ek, ed, e, hn, by rw [L2.upd_ne (show a ≠ D from fun z => hn (by rw [z]; exact hD))]; exact h, DaFs.wr hD hl ho r xs hq⟩
theorem DaFs.wr {D : Addr} {o o' : HO} (hD : D ∈ A) (hl : H D = some o) (ho : WrO o) : ∀ (kvs : List (PyData × PyData)) (xs : List (Str × V)), DaFs K A H kvs xs → DaFs K A (L2.upd H D o') kvs xs
  | [], _, h => h
  | (k, d) :: r, _, ⟨f, v, ys, ek, e, h, hq⟩ => ⟨f, v, ys, ek, e, Da.wr hD hl ho d v h, DaFs.wr hD hl ho r ys hq⟩
theorem DaAll.wr {D : Addr} {o o' : HO} (hD : D ∈ A) (hl : H D = some o) (ho : WrO o) : ∀ (ds : List PyData) (xs : List V), DaAll K A H ds xs → DaAll K A (L2.upd H D o') ds xs
  | [], _, h => h
  | d :: ds, _, ⟨v, vs, e, h, hq⟩ => ⟨v, vs, e, Da.wr hD hl ho d v h, DaAll.wr hD hl ho ds vs hq⟩
end
theorem tabs_wr {T : List (Addr × Str)} {D : Addr} {o o' : HO} (t : LamX.Tabs T H) (hl : H D = some o) (ho : WrO o) : LamX.Tabs T (L2.upd H D o') := fun p hp => by
  obtain ⟨ps, h1, h2, h3⟩ := t p hp
  refine ⟨ps, by rw [upd_ne (ho.ne hl h1 trivial)]; exact h1, h2, fun pos cv hc => ?_⟩
  obtain ⟨c, e1, e2⟩ := h3 pos cv hc
  exact ⟨c, e1, by rw [upd_ne (ho.ne hl e2 trivial)]; exact e2⟩
theorem tabs_laid {T : List (Addr × Str)} {p : Addr} {o : HO} (t : LamX.Tabs T H) (hp : H p = none) : LamX.Tabs T (L2.upd H p o) := t.ext fun b u e => by rw [upd_ne (ne_of_none e hp)]; exact e
theorem Cells.wr {μ : Mu} (c : Cells K φ H μ) {D : Addr} {o o' : HO} (hD : D ∈ φ.1) (hD2 : D ∉ φ.2) (hl : H D = some o) (ho : WrO o) : Cells K φ (L2.upd H D o') μ := by
  refine ⟨c.nd, c.len, fun n a ds h1 h2 => ?_, fun a ha z => ?_, tabs_wr c.tb hl ho⟩
  · obtain ⟨xs, h, hs⟩ := c.at_ n a ds h1 h2
    exact ⟨xs, by rw [L2.upd_ne (show a ≠ D from fun z => hD2 (by rw [← z]; exact List.mem_of_getElem? h1))]; exact h, DaAll.wr (List.mem_append_left _ hD) hl ho ds xs hs⟩
  · by_cases e : a = D
    · subst e; rw [upd_same] at z; cases z
    · rw [upd_ne e] at z; exact c.tr a ha z
/-! the store stays where nothing but new objects came -/
theorem Cells.laid {μ : Mu} (c : Cells K φ H μ) {p : Addr} {o : HO} (hp : H p = none) : Cells K φ (upd H p o) μ := by
  refine ⟨c.nd, c.len, fun n a ds h1 h2 => ?_, fun a ha z => c.tr a ha ((Grow.laid (φ := φ) (o := o) hp).live a z), tabs_laid c.tb hp⟩
  obtain ⟨xs, h, hs⟩ := c.at_ n a ds h1 h2
  exact ⟨xs, by rw [upd_ne (ne_of_none h hp)]; exact h, DaAll.step (Grow.laid hp).w ds xs hs⟩
theorem Cells.mem {μ : Mu} (c : Cells K φ H μ) {a : Addr} (h : a ∈ φ.2) : ∃ xs, H a = some (.lst xs) := by
  obtain ⟨n, hn⟩ := List.getElem?_of_mem h
  have : n < μ.length := by rw [← c.len]; exact (List.getElem?_eq_some_iff.mp hn).1
  obtain ⟨xs, h, _⟩ := c.at_ n a μ[n] hn (by simp [this])
  exact ⟨xs, h⟩
theorem Cells.notin {μ : Mu} (c : Cells K φ H μ) {p : Addr} (hp : H p = none) : p ∉ φ.av := fun hm => by
  rcases List.mem_append.mp hm with hm | hm
  · exact c.tr p hm hp
  · obtain ⟨xs, h⟩ := c.mem hm
    rw [hp] at h; cases h
/-- a new changed list -/
theorem Cells.cell {μ : Mu} (c : Cells K φ H μ) {p : Addr} {ds : List PyData} {xs : List V} (hp : H p = none) (hs : DaAll K φ.av H ds xs) : Cells K (φ.1, φ.2 ++ [p]) (upd H p (.lst xs)) (μ ++ [ds]) := by
  have g : Grow φ (φ.1, φ.2 ++ [p]) H (upd H p (.lst xs)) := Grow.cell hp
  refine ⟨?_, by simp [c.len], fun n a es h1 h2 => ?_, fun a ha z => c.tr a ha (g.live a z), tabs_laid c.tb hp⟩
  · rw [List.nodup_append]
    refine ⟨c.nd, by simp, fun a ha b hb => ?_⟩
    rw [List.mem_singleton.mp hb]
    intro z; subst z
    exact c.notin hp (List.mem_append_right _ ha)
  · by_cases hn : n < φ.2.length
    · have h1' : φ.2[n]? = some a := by
        have : (φ.2 ++ [p])[n]? = some a := h1
        rwa [List.getElem?_append_left hn] at this
      rw [List.getElem?_append_left (by rw [← c.len]; exact hn)] at h2
      obtain ⟨ys, h3, h4⟩ := c.at_ n a es h1' h2
      exact ⟨ys, by rw [upd_ne (ne_of_none h3 hp)]; exact h3, DaAll.step g es ys h4⟩
    · have hl : n < (φ.2 ++ [p]).length := (List.getElem?_eq_some_iff.mp h1).1
      have e : n = φ.2.length := by
        rw [List.length_append, List.length_singleton] at hl; omega
      subst e
      have h1' : (φ.2 ++ [p])[φ.2.length]? = some a := h1
      rw [List.getElem?_append_right (Nat.le_refl _), Nat.sub_self] at h1'
      rw [List.getElem?_append_right (by rw [c.len]; exact Nat.le_refl _), c.len, Nat.sub_self] at h2
      cases h1'
      cases h2
      exact ⟨xs, upd_same, DaAll.step g ds xs hs⟩
theorem RS.step {σ : L2.St} {ρ : Rho} {μ μ' : Mu} (r : RS K φ σ H ρ μ) (g : GrowW φ φ' H H') (c : Cells K φ' H' μ') : RS K φ' σ H' ρ μ' :=
  ⟨c, r.len, fun i w h => let ⟨v, h1, h2⟩ := r.at_ i w h; ⟨v, h1, RV.step g w v h2⟩⟩
theorem RS.put {σ : L2.St} {ρ : Rho} {μ : Mu} (r : RS K φ σ H ρ μ) {i : Nat} {w : Vw} {v : V} (h : RV K φ H w v) : RS K φ (σ.set i (some v)) H (ρ.set i (some w)) μ := by
  refine ⟨r.c, by simp [r.len], fun j u hj => ?_⟩
  by_cases e : j = i
  · subst e
    have hlt : j < ρ.length := by
      have := (List.getElem?_eq_some_iff.mp hj).1
      simpa using this
    rw [List.getElem?_set_self hlt] at hj
    cases hj
    exact ⟨v, by rw [List.getElem?_set_self (by rw [r.len]; exact hlt)], h⟩
  · rw [List.getElem?_set_ne (Ne.symm e)] at hj
    obtain ⟨x, h1, h2⟩ := r.at_ j u hj
    exact ⟨x, by rw [List.getElem?_set_ne (Ne.symm e)]; exact h1, h2⟩
end

/-! ### judgements -/
abbrev Post (K : PySem.W.Frag) (φ : Ph) (H : Hp) (μ' : Mu) (w : Vw) (Q : VK) : Prop := ∀ φ' v H', Grow φ φ' H H' → Cells K φ' H' μ' → RV K φ' H' w v → Q v H'
def tE (K : PySem.W.Frag) (f : Rho → Mu → Option (Vw × Mu)) : TE := fun σ H Q => ∃ φ ρ μ w μ', RS K φ σ H ρ μ ∧ f ρ μ = some (w, μ') ∧ Post K φ H μ' w Q
def tT (K : PySem.W.Frag) (f : Rho → Mu → Option (Bool × Mu)) : TT := fun σ H Q => ∃ φ ρ μ b μ', RS K φ σ H ρ μ ∧ f ρ μ = some (b, μ') ∧ ∀ φ' H', Grow φ φ' H H' → Cells K φ' H' μ' → Q b H'
def tA (K : PySem.W.Frag) (f : Rho → Mu → Option (List Vw × Mu)) : TA := fun σ H Q => ∃ φ ρ μ ws μ', RS K φ σ H ρ μ ∧ f ρ μ = some (ws, μ') ∧ ∀ φ' vs H', Grow φ φ' H H' → Cells K φ' H' μ' → RVs K φ' H' ws vs → Q vs H'
inductive SR where
  | nx (ρ : Rho) (μ : Mu) | rt (w : Vw) (μ : Mu) | bk (ρ : Rho) (μ : Mu) | ct (ρ : Rho) (μ : Mu)
def SPost (K : PySem.W.Frag) (φ : Ph) (H : Hp) (D : Ends) : Option SR → Prop
  | some (.nx ρ μ) => ∀ φ' σ' H', Grow φ φ' H H' → RS K φ' σ' H' ρ μ → D.nx σ' H'
  | some (.rt w μ) => Post K φ H μ w D.rt
  | some (.bk ρ μ) => ∀ φ' σ' H', Grow φ φ' H H' → RS K φ' σ' H' ρ μ → D.bk σ' H'
  | some (.ct ρ μ) => ∀ φ' σ' H', Grow φ φ' H H' → RS K φ' σ' H' ρ μ → D.ct σ' H'
  | none => False
def tS (K : PySem.W.Frag) (g : Rho → Mu → Option SR) : TS := fun D σ H => ∃ φ ρ μ, RS K φ σ H ρ μ ∧ SPost K φ H D (g ρ μ)
theorem SPost.grow {K : PySem.W.Frag} {φ φ' : Ph} {H H' : Hp} {D : Ends} {r : Option SR} (g : Grow φ φ' H H') (h : SPost K φ H D r) : SPost K φ' H' D r := by
  cases r with
  | none => exact h
  | some r =>
    cases r with
    | nx ρ μ => exact fun φ2 σ2 H2 g2 r2 => h φ2 σ2 H2 (g.trans g2) r2
    | rt w μ => exact fun φ2 v2 H2 g2 c2 r2 => h φ2 v2 H2 (g.trans g2) c2 r2
    | bk ρ μ => exact fun φ2 σ2 H2 g2 r2 => h φ2 σ2 H2 (g.trans g2) r2
    | ct ρ μ => exact fun φ2 σ2 H2 g2 r2 => h φ2 σ2 H2 (g.trans g2) r2
theorem PE.to {X : Cx} {e : Expr} {t u : TE} (h : PE X e t) (k : ∀ σ H Q, u σ H Q → t σ H Q) : PE X e u := ⟨fun pins s σ H Q I q => h.run pins s σ H Q I (k σ H Q q)⟩
theorem PT.to {X : Cx} {e : Expr} {t u : TT} (h : PT X e t) (k : ∀ σ H Q, u σ H Q → t σ H Q) : PT X e u := ⟨fun pins s σ H Q I q => h.run pins s σ H Q I (k σ H Q q)⟩
theorem PW.to {X : Cx} {e : Expr} {t u : TT} (h : PW X e t) (k : ∀ σ H Q, u σ H Q → t σ H Q) : PW X e u := ⟨fun wh pins s σ H Q I q => h.run wh pins s σ H Q I (k σ H Q q)⟩
theorem PA.to {X : Cx} {e : List Expr} {t u : TA} (h : PA X e t) (k : ∀ σ H Q, u σ H Q → t σ H Q) : PA X e u := ⟨fun pos pins s σ H Q I q => h.run pos pins s σ H Q I (k σ H Q q)⟩
theorem PS.to {X : Cx} {e : Stmt} {t u : TS} (h : PS X e t) (k : ∀ D σ H, u D σ H → t D σ H) : PS X e u := ⟨fun pins s σ H D I q => h.run pins s σ H D I (k D σ H q)⟩
theorem PSs.to {X : Cx} {e : List Stmt} {t u : TS} (h : PSs X e t) (k : ∀ D σ H, u D σ H → t D σ H) : PSs X e u := ⟨fun pins s σ H D I q => h.run pins s σ H D I (k D σ H q)⟩
end VL
end
section
set_option Elab.async false
set_option linter.all false
set_option maxRecDepth 100000
namespace VL
open PySem PySem.Spec PyProof.Rows L2
variable [LawTabs]
section
variable {X : Cx} {a b c : Expr} {pos : Pos}
abbrev EF := Rho → Mu → Option (Vw × Mu)
abbrev BF := Rho → Mu → Option (Bool × Mu)
abbrev AF := Rho → Mu → Option (List Vw × Mu)
abbrev SF := Rho → Mu → Option SR
/-! ### the mirror's words -/
@[simp] def eV (i : Nat) (ρ : Rho) (μ : Mu) : Option (Vw × Mu) := match ρ[i]? with
  | some (some w) => some (w, μ)
  | _ => none
@[simp] def eC (p : PyData) (_ : Rho) (μ : Mu) : Option (Vw × Mu) := some (.d p, μ)
@[simp] def eB1 (o : Mu → Vw → Option Vw) (f : EF) (ρ : Rho) (μ : Mu) : Option (Vw × Mu) := match f ρ μ with
  | some (x, μ1) => (o μ1 x).map fun z => (z, μ1)
  | none => none
@[simp] def eB2 (o : Mu → Vw → Vw → Option Vw) (f g : EF) (ρ : Rho) (μ : Mu) : Option (Vw × Mu) := match f ρ μ with
  | some (x, μ1) => (match g ρ μ1 with
    | some (y, μ2) => (o μ2 x y).map fun z => (z, μ2)
    | none => none)
  | none => none
/-- a value's truth as a test: a bool -/
@[simp] def bE (f : EF) (ρ : Rho) (μ : Mu) : Option (Bool × Mu) := match f ρ μ with
  | some (.d (.bool b), μ1) => some (b, μ1)
  | _ => none
@[simp] def bAnd (f g : BF) (ρ : Rho) (μ : Mu) : Option (Bool × Mu) := match f ρ μ with
  | some (true, μ1) => g ρ μ1
  | r => r
@[simp] def bOr (f g : BF) (ρ : Rho) (μ : Mu) : Option (Bool × Mu) := match f ρ μ with
  | some (false, μ1) => g ρ μ1
  | r => r
@[simp] def bNot (f : BF) (ρ : Rho) (μ : Mu) : Option (Bool × Mu) := (f ρ μ).map fun r => (!r.1, r.2)
@[simp] def eT (f : BF) (ρ : Rho) (μ : Mu) : Option (Vw × Mu) := (f ρ μ).map fun r => (.d (.bool r.1), r.2)
@[simp] def eIf (t : BF) (f g : EF) (ρ : Rho) (μ : Mu) : Option (Vw × Mu) := match t ρ μ with
  | some (true, μ1) => f ρ μ1
  | some (false, μ1) => g ρ μ1
  | none => none
@[simp] def aNil (_ : Rho) (μ : Mu) : Option (List Vw × Mu) := some ([], μ)
@[simp] def aCons (f : EF) (g : AF) (ρ : Rho) (μ : Mu) : Option (List Vw × Mu) := match f ρ μ with
  | some (x, μ1) => (g ρ μ1).map fun r => (x :: r.1, r.2)
  | none => none
/-! ### a value operation and its rule -/
/-- what is asked of a two-place rule r for the mirror's operation o -/
def O2 (K : PySem.W.Frag) (r : R2) (o : Mu → Vw → Vw → Option Vw) : Prop := ∀ (φ : Ph) (H : Hp) (μ : Mu) (x y w : Vw) (u v : V) (Q : VK), Cells K φ H μ → RV K φ H x u → RV K φ H y v → o μ x y = some w → Post K φ H μ w Q → r u v H Q
def O1 (K : PySem.W.Frag) (r : V → Hp → VK → Prop) (o : Mu → Vw → Option Vw) : Prop := ∀ (φ : Ph) (H : Hp) (μ : Mu) (x w : Vw) (u : V) (Q : VK), Cells K φ H μ → RV K φ H x u → o μ x = some w → Post K φ H μ w Q → r u H Q

theorem ej_var (i : Nat) {x : Str} (hN : X.N[i]? = some x := by rfl) (hv : Vis X.env.scope x := by first | exact Or.inl rfl | exact Or.inr (Or.inl rfl) | exact Or.inr (Or.inr rfl)) (hd : (x == ("__debug__" : Str)) = false := by decide)
    (hcd : (x == ("__classdict__" : Str)) = false := by decide) : PE X (.Name x pos) (tE X.K (eV i)) := PE.to (pe_var hN hv hd hcd) fun σ H Q ⟨φ, ρ, μ, w, μ', r, e, k⟩ => by
  unfold eV at e
  split at e
  · rename_i u h
    cases e
    obtain ⟨v, h1, h2⟩ := r.at_ i _ h
    exact ⟨v, h1, k φ v H (.refl _ _) r.c h2⟩
  · cases e
theorem ej_c {p : PyData} {v : V} {e : Expr} (h : PE X e (tC v)) (hp : ∀ φ H, Da X.K φ H p v) : PE X e (tE X.K (eC p)) := PE.to h fun σ H Q ⟨φ, ρ, μ, w, μ', r, e, k⟩ => by
  unfold eC at e
  cases e
  exact k φ v H (.refl _ _) r.c (hp φ.av H)
theorem ej_int {i j} : PE X (.Constant (.int i) j pos) (tE X.K (eC (.int i))) := ej_c pe_int fun _ _ => rfl
theorem ej_bl {b j} : PE X (.Constant (.bool b) j pos) (tE X.K (eC (.bool b))) := ej_c pe_bl fun _ _ => rfl
theorem ej_non {j} : PE X (.Constant .none j pos) (tE X.K (eC .none)) := ej_c pe_non fun _ _ => rfl
theorem ej_str {x j} : PE X (.Constant (.str x) j pos) (tE X.K (eC (.str x))) := ej_c pe_str fun _ _ => rfl
/-- a module's constant int, text -/
theorem ej_gint {x : Str} {i : Int} (hm : ∃ t, X.mg x = some (.int i t)) (hg : Gl X x := by rfl) (hd : (x == ("__debug__" : Str)) = false := by decide) : PE X (.Name x pos) (tE X.K (eC (.int i))) := by
  obtain ⟨t, hm⟩ := hm
  exact ej_c (pe_glob (v := .int i) hg hm ⟨t, rfl⟩ hd) fun _ _ => rfl
/-- a module's tuple -/
theorem ej_gtup {x : Str} {ad : Addr} {p : PyData} (hm : X.mg x = some (.ref ad)) (hp : ∀ φ H, Da X.K φ H p (.ref ad)) (hg : Gl X x := by rfl) (hd : (x == ("__debug__" : Str)) = false := by decide) : PE X (.Name x pos) (tE X.K (eC p)) :=
  ej_c (pe_glob (v := .ref ad) hg hm rfl hd) hp
theorem tE_2 {K : PySem.W.Frag} {r : R2} {o : Mu → Vw → Vw → Option Vw} {f g : EF} (h : O2 K r o) : ∀ σ H Q, tE K (eB2 o f g) σ H Q → tOp r (tE K f) (tE K g) σ H Q := fun σ H Q ⟨φ, ρ, μ, w, μ', rs, e, k⟩ => by
  unfold eB2 at e
  split at e
  · rename_i x μ1 e1
    split at e
    · rename_i y μ2 e2
      obtain ⟨z, ez, e3⟩ := Option.map_eq_some_iff.mp e
      cases e3
      refine ⟨φ, ρ, μ, x, μ1, rs, e1, fun φ1 u H1 g1 c1 r1 => ?_⟩
      have rs1 := rs.step g1 c1
      refine ⟨φ1, ρ, μ1, y, _, rs1, e2, fun φ2 v H2 g2 c2 r2 => ?_⟩
      exact h φ2 H2 _ x y w u v Q c2 (RV.step g2 _ _ r1) r2 ez fun φ3 v3 H3 g3 c3 r3 => k φ3 v3 H3 ((g1.trans g2).trans g3) c3 r3
    · cases e
  · cases e
theorem tE_1 {K : PySem.W.Frag} {r : V → Hp → VK → Prop} {o : Mu → Vw → Option Vw} {f : EF} (h : O1 K r o) : ∀ σ H Q, tE K (eB1 o f) σ H Q → tUn r (tE K f) σ H Q := fun σ H Q ⟨φ, ρ, μ, w, μ', rs, e, k⟩ => by
  unfold eB1 at e
  split at e
  · rename_i x μ1 e1
    obtain ⟨z, ez, e3⟩ := Option.map_eq_some_iff.mp e
    cases e3
    refine ⟨φ, ρ, μ, x, _, rs, e1, fun φ1 u H1 g1 c1 r1 => ?_⟩
    exact h φ1 H1 _ x w u Q c1 r1 ez fun φ3 v3 H3 g3 c3 r3 => k φ3 v3 H3 (g1.trans g3) c3 r3
  · cases e
theorem ej_op {op : Operator} {r : R2} {o : Mu → Vw → Vw → Option Vw} {f g : EF} (ho : OpR X (binaryOp op) r) (h : O2 X.K r o) (ha : PE X a (tE X.K f)) (hb : PE X b (tE X.K g)) : PE X (.BinOp a op b pos) (tE X.K (eB2 o f g)) := PE.to (pe_op ho ha hb) (tE_2 h)
theorem ej_cmp {op : CmpOp} {r : R2} {o : Mu → Vw → Vw → Option Vw} {f g : EF} (ho : OpR X (compareOp op) r) (h : O2 X.K r o) (ha : PE X a (tE X.K f)) (hb : PE X b (tE X.K g)) (hm : behindInMarks op b = false := by first | exact nomark _ | rfl) : PE X (.Compare a [op] [b] pos) (tE X.K (eB2 o f g)) := PE.to (pe_cmpR ho ha hb hm) (tE_2 h)
theorem ej_ix {r : R2} {o : Mu → Vw → Vw → Option Vw} {f g : EF} (ho : IxR X r) (h : O2 X.K r o) (ha : PE X a (tE X.K f)) (hb : PE X b (tE X.K g)) (hs : PlainIx b := by exact fun _ _ => rfl) : PE X (.Subscript a b pos) (tE X.K (eB2 o f g)) := PE.to (pe_ix ho ha hb hs) (tE_2 h)
theorem ej_un {op : UnaryOp} {r : V → Hp → VK → Prop} {o : Mu → Vw → Option Vw} {f : EF} (ho : UnR X (unaryOp op) r) (h : O1 X.K r o) (ha : PE X a (tE X.K f)) : PE X (.UnaryOp op a pos) (tE X.K (eB1 o f)) := PE.to (pe_un ho ha) (tE_1 h)
/-! ### tests -/
theorem tT_E {K : PySem.W.Frag} {f : EF} : ∀ σ H Q, tT K (bE f) σ H Q → tB (tE K f) σ H Q := fun σ H Q ⟨φ, ρ, μ, b, μ', rs, e, k⟩ => by
  unfold bE at e
  split at e
  · rename_i c μ1 e1
    cases e
    exact ⟨φ, ρ, μ, _, _, rs, e1, fun φ1 u H1 g1 c1 r1 => ⟨_, r1, k φ1 H1 g1 c1⟩⟩
  · cases e
theorem tj_val {f : EF} (h : PE X a (tE X.K f)) (he : ∀ whole, isTrue a X.env whole = (do let v ← whole; standAt a.pos; holding [v] (truthy v)) := by intro _; rfl) : PT X a (tT X.K (bE f)) := PT.to (pt_val h he) tT_E
theorem tj_cmp {op : CmpOp} {r : R2} {o : Mu → Vw → Vw → Option Vw} {f g : EF} (ho : OpR X (compareOp op) r) (h : O2 X.K r o) (ha : PE X a (tE X.K f)) (hb : PE X b (tE X.K g)) (hm : behindInMarks op b = false := by first | exact nomark _ | rfl) : PT X (.Compare a [op] [b] pos) (tT X.K (bE (eB2 o f g))) :=
  PT.to (pt_cmpR ho ha hb hm) fun σ H Q q => by
    have q1 := tT_E σ H Q q
    exact tE_2 h σ H _ q1
theorem tj_not {f : BF} (h : PT X a (tT X.K f)) : PT X (.UnaryOp .Not a pos) (tT X.K (bNot f)) := PT.to (pt_not h) fun σ H Q ⟨φ, ρ, μ, b, μ', rs, e, k⟩ => by
  obtain ⟨⟨c, μ1⟩, e1, e2⟩ := Option.map_eq_some_iff.mp e
  cases e2
  exact ⟨φ, ρ, μ, c, _, rs, e1, fun φ1 H1 g1 c1 => k φ1 H1 g1 c1⟩
theorem tT_and {K : PySem.W.Frag} {f g : BF} : ∀ σ H Q, tT K (bAnd f g) σ H Q → tAnd (tT K f) (tT K g) σ H Q := fun σ H Q ⟨φ, ρ, μ, b, μ', rs, e, k⟩ => by
  unfold bAnd at e
  split at e
  · rename_i μ1 e1
    refine ⟨φ, ρ, μ, true, μ1, rs, e1, fun φ1 H1 g1 c1 => ?_⟩
    refine L2.iteT ?_
    exact ⟨φ1, ρ, μ1, b, μ', rs.step g1 c1, e, fun φ2 H2 g2 c2 => k φ2 H2 (g1.trans g2) c2⟩
  · rename_i hne
    refine ⟨φ, ρ, μ, b, μ', rs, e, fun φ1 H1 g1 c1 => ?_⟩
    cases b with
    | true => exact absurd e (hne _)
    | false =>
      refine L2.iteF ?_
      exact k φ1 H1 g1 c1
theorem tT_or {K : PySem.W.Frag} {f g : BF} : ∀ σ H Q, tT K (bOr f g) σ H Q → tOr (tT K f) (tT K g) σ H Q := fun σ H Q ⟨φ, ρ, μ, b, μ', rs, e, k⟩ => by
  unfold bOr at e
  split at e
  · rename_i μ1 e1
    refine ⟨φ, ρ, μ, false, μ1, rs, e1, fun φ1 H1 g1 c1 => ?_⟩
    refine L2.iteF ?_
    exact ⟨φ1, ρ, μ1, b, μ', rs.step g1 c1, e, fun φ2 H2 g2 c2 => k φ2 H2 (g1.trans g2) c2⟩
  · rename_i hne
    refine ⟨φ, ρ, μ, b, μ', rs, e, fun φ1 H1 g1 c1 => ?_⟩
    cases b with
    | false => exact absurd e (hne _)
    | true =>
      refine L2.iteT ?_
      exact k φ1 H1 g1 c1
theorem wj_and1 {f : BF} (h : PT X a (tT X.K f)) : PW X (.BoolOp .And [a] pos) (tT X.K f) := pw_and1 h
theorem wj_or1 {f : BF} (h : PT X a (tT X.K f)) : PW X (.BoolOp .Or [a] pos) (tT X.K f) := pw_or1 h
theorem wj_and {rest : List Expr} {f g : BF} (ha : PT X a (tT X.K f)) (hb : PW X (.BoolOp .And (b :: rest) pos) (tT X.K g)) : PW X (.BoolOp .And (a :: b :: rest) pos) (tT X.K (bAnd f g)) := PW.to (pw_and ha hb) tT_and
theorem wj_or {rest : List Expr} {f g : BF} (ha : PT X a (tT X.K f)) (hb : PW X (.BoolOp .Or (b :: rest) pos) (tT X.K g)) : PW X (.BoolOp .Or (a :: b :: rest) pos) (tT X.K (bOr f g)) := PW.to (pw_or ha hb) tT_or
theorem tj_w {f : BF} (h : PW X a (tT X.K f)) : PT X a (tT X.K f) := h.pt
/-- and, or, not as values of bools -/
@[simp] def eAnd (f g : EF) (ρ : Rho) (μ : Mu) : Option (Vw × Mu) := match f ρ μ with
  | some (.d (.bool true), μ1) => g ρ μ1
  | some (.d (.bool false), μ1) => some (.d (.bool false), μ1)
  | _ => none
@[simp] def eOr (f g : EF) (ρ : Rho) (μ : Mu) : Option (Vw × Mu) := match f ρ μ with
  | some (.d (.bool false), μ1) => g ρ μ1
  | some (.d (.bool true), μ1) => some (.d (.bool true), μ1)
  | _ => none
@[simp] def eNot (f : EF) (ρ : Rho) (μ : Mu) : Option (Vw × Mu) := match f ρ μ with
  | some (.d (.bool b), μ1) => some (.d (.bool (!b)), μ1)
  | _ => none
theorem ej_one {op} {f : EF} (h : PE X a (tE X.K f)) : PE X (.BoolOp op [a] pos) (tE X.K f) := pe_one h
theorem ej_and {rest : List Expr} {f g : EF} (ha : PE X a (tE X.K f)) (hb : PE X (.BoolOp .And (b :: rest) pos) (tE X.K g)) : PE X (.BoolOp .And (a :: b :: rest) pos) (tE X.K (eAnd f g)) := PE.to (pe_and ha hb) fun σ H Q ⟨φ, ρ, μ, w, μ', rs, e, k⟩ => by
  unfold eAnd at e
  split at e
  · rename_i μ1 e1
    refine ⟨φ, ρ, μ, _, μ1, rs, e1, fun φ1 v H1 g1 c1 r1 => ⟨true, r1, ?_⟩⟩
    refine L2.iteT ?_
    exact ⟨φ1, ρ, μ1, w, μ', rs.step g1 c1, e, fun φ2 v2 H2 g2 c2 r2 => k φ2 v2 H2 (g1.trans g2) c2 r2⟩
  · rename_i μ1 e1
    cases e
    refine ⟨φ, ρ, μ, _, _, rs, e1, fun φ1 v H1 g1 c1 r1 => ⟨false, r1, ?_⟩⟩
    refine L2.iteF ?_
    exact k φ1 _ H1 g1 c1 rfl
  · cases e
theorem ej_or {rest : List Expr} {f g : EF} (ha : PE X a (tE X.K f)) (hb : PE X (.BoolOp .Or (b :: rest) pos) (tE X.K g)) : PE X (.BoolOp .Or (a :: b :: rest) pos) (tE X.K (eOr f g)) := PE.to (pe_or ha hb) fun σ H Q ⟨φ, ρ, μ, w, μ', rs, e, k⟩ => by
  unfold eOr at e
  split at e
  · rename_i μ1 e1
    refine ⟨φ, ρ, μ, _, μ1, rs, e1, fun φ1 v H1 g1 c1 r1 => ⟨false, r1, ?_⟩⟩
    refine L2.iteF ?_
    exact ⟨φ1, ρ, μ1, w, μ', rs.step g1 c1, e, fun φ2 v2 H2 g2 c2 r2 => k φ2 v2 H2 (g1.trans g2) c2 r2⟩
  · rename_i μ1 e1
    cases e
    refine ⟨φ, ρ, μ, _, _, rs, e1, fun φ1 v H1 g1 c1 r1 => ⟨true, r1, ?_⟩⟩
    refine L2.iteT ?_
    exact k φ1 _ H1 g1 c1 rfl
  · cases e
theorem ej_not {f : EF} (ha : PE X a (tE X.K f)) : PE X (.UnaryOp .Not a pos) (tE X.K (eNot f)) := PE.to (pe_not ha) fun σ H Q ⟨φ, ρ, μ, w, μ', rs, e, k⟩ => by
  unfold eNot at e
  split at e
  · rename_i b μ1 e1
    cases e
    exact ⟨φ, ρ, μ, _, _, rs, e1, fun φ1 v H1 g1 c1 r1 => ⟨b, r1, k φ1 _ H1 g1 c1 rfl⟩⟩
  · cases e
theorem ej_if {t : BF} {f g : EF} (hc : PT X c (tT X.K t)) (ha : PE X a (tE X.K f)) (hb : PE X b (tE X.K g)) : PE X (.IfExp c a b pos) (tE X.K (eIf t f g)) := PE.to (pe_ifExp hc ha hb) fun σ H Q ⟨φ, ρ, μ, w, μ', rs, e, k⟩ => by
  unfold eIf at e
  split at e
  · rename_i μ1 e1
    refine ⟨φ, ρ, μ, true, μ1, rs, e1, fun φ1 H1 g1 c1 => ?_⟩
    refine L2.iteT ?_
    exact ⟨φ1, ρ, μ1, w, μ', rs.step g1 c1, e, fun φ2 v2 H2 g2 c2 r2 => k φ2 v2 H2 (g1.trans g2) c2 r2⟩
  · rename_i μ1 e1
    refine ⟨φ, ρ, μ, false, μ1, rs, e1, fun φ1 H1 g1 c1 => ?_⟩
    refine L2.iteF ?_
    exact ⟨φ1, ρ, μ1, w, μ', rs.step g1 c1, e, fun φ2 v2 H2 g2 c2 r2 => k φ2 v2 H2 (g1.trans g2) c2 r2⟩
  · cases e
/-! ### chains a op b op' c -/
@[simp] def eChain (o o' : Mu → Vw → Vw → Option Vw) (f g h : EF) (ρ : Rho) (μ : Mu) : Option (Vw × Mu) := match f ρ μ with
  | some (x, μ1) => (match g ρ μ1 with
    | some (y, μ2) => (match o μ2 x y with
      | some (.d (.bool true)) => (match h ρ μ2 with
        | some (z, μ3) => (o' μ3 y z).map fun u => (u, μ3)
        | none => none)
      | some (.d (.bool false)) => some (.d (.bool false), μ2)
      | _ => none)
    | none => none)
  | none => none
theorem tE_chain {K : PySem.W.Frag} {r r' : R2} {o o' : Mu → Vw → Vw → Option Vw} {f g h : EF} (ho : O2 K r o) (ho' : O2 K r' o') : ∀ σ H Q, tE K (eChain o o' f g h) σ H Q → tChain r r' (tE K f) (tE K g) (tE K h) σ H Q := fun σ H Q ⟨φ, ρ, μ, w, μ', rs, e, k⟩ => by
  unfold eChain at e
  split at e
  · rename_i x μ1 e1
    split at e
    · rename_i y μ2 e2
      refine ⟨φ, ρ, μ, x, μ1, rs, e1, fun φ1 u H1 g1 c1 r1 => ?_⟩
      have rs1 := rs.step g1 c1
      refine ⟨φ1, ρ, μ1, y, μ2, rs1, e2, fun φ2 v H2 g2 c2 r2 => ?_⟩
      split at e
      · rename_i e3
        refine ho φ2 H2 μ2 x y _ u v _ c2 (RV.step g2 _ _ r1) r2 e3 fun φ3 v3 H3 g3 c3 r3 => ⟨true, r3, ?_⟩
        refine L2.iteT ?_
        split at e
        · rename_i z μ3 e4
          obtain ⟨q, eq, e5⟩ := Option.map_eq_some_iff.mp e
          cases e5
          have rs3 := (rs1.step g2 c2).step g3 c3
          refine ⟨φ3, ρ, μ2, z, _, rs3, e4, fun φ4 v4 H4 g4 c4 r4 => ?_⟩
          exact ho' φ4 H4 _ y z w v v4 Q c4 (RV.step (g3.trans g4) _ _ r2) r4 eq fun φ5 v5 H5 g5 c5 r5 => k φ5 v5 H5 ((((g1.trans g2).trans g3).trans g4).trans g5) c5 r5
        · cases e
      · rename_i e3
        cases e
        refine ho φ2 H2 _ x y (.d (.bool false)) u v _ c2 (RV.step g2 _ _ r1) r2 e3 fun φ3 v3 H3 g3 c3 r3 => ⟨false, r3, ?_⟩
        refine L2.iteF ?_
        exact k φ3 _ H3 ((g1.trans g2).trans g3) c3 rfl
      · cases e
    · cases e
  · cases e
theorem ej_chain {op op' : CmpOp} {r r' : R2} {o o' : Mu → Vw → Vw → Option Vw} {f g h : EF} (ho : OpR X (compareOp op) r) (h1 : O2 X.K r o) (ho' : OpR X (compareOp op') r') (h1' : O2 X.K r' o') (ha : PE X a (tE X.K f)) (hb : PE X b (tE X.K g)) (hc : PE X c (tE X.K h))
    (hm : lastMarks [op, op'] [b, c] = false := by with_unfolding_all rfl) : PE X (.Compare a [op, op'] [b, c] pos) (tE X.K (eChain o o' f g h)) := PE.to (pe_chain ho ho' ha hb hc hm) (tE_chain h1 h1')
theorem tj_chain {op op' : CmpOp} {r r' : R2} {o o' : Mu → Vw → Vw → Option Vw} {f g h : EF} (ho : OpR X (compareOp op) r) (h1 : O2 X.K r o) (ho' : OpR X (compareOp op') r') (h1' : O2 X.K r' o') (ha : PE X a (tE X.K f)) (hb : PE X b (tE X.K g)) (hc : PE X c (tE X.K h))
    (hm : lastMarks [op, op'] [b, c] = false := by with_unfolding_all rfl) : PT X (.Compare a [op, op'] [b, c] pos) (tT X.K (bE (eChain o o' f g h))) := PT.to (pt_chain ho ho' ha hb hc hm) fun σ H Q q => tE_chain h1 h1' σ H _ (tT_E σ H Q q)
/-! ### arguments, tuples, lists -/
theorem aj_nil : PA X [] (tA X.K aNil) := PA.to pa_nil fun σ H Q ⟨φ, ρ, μ, ws, μ', rs, e, k⟩ => by
  unfold aNil at e; cases e
  exact k φ [] H (.refl _ _) rs.c rfl
theorem aj_cons {es : List Expr} {f : EF} {g : AF} (ha : PE X a (tE X.K f)) (hr : PA X es (tA X.K g)) (hs : starEach (a :: es) X.env = (false, eval a X.env) :: starEach es X.env := by rfl) : PA X (a :: es) (tA X.K (aCons f g)) := PA.to (pa_cons ha hr hs) fun σ H Q ⟨φ, ρ, μ, ws, μ', rs, e, k⟩ => by
  unfold aCons at e
  split at e
  · rename_i x μ1 e1
    obtain ⟨⟨ys, μ2⟩, e2, e3⟩ := Option.map_eq_some_iff.mp e
    cases e3
    refine ⟨φ, ρ, μ, x, μ1, rs, e1, fun φ1 u H1 g1 c1 r1 => ?_⟩
    refine ⟨φ1, ρ, μ1, ys, _, rs.step g1 c1, e2, fun φ2 vs H2 g2 c2 r2 => ?_⟩
    exact k φ2 _ H2 (g1.trans g2) c2 ⟨u, vs, rfl, RV.step g2 _ _ r1, r2⟩
  · cases e
/-- all are data -/
@[simp] def allD : List Vw → Option (List PyData)
  | [] => some []
  | .d p :: r => (allD r).map fun q => p :: q
  | _ :: _ => none
theorem allD_da {K : PySem.W.Frag} {φ : Ph} {H : Hp} : ∀ {ws : List Vw} {ps : List PyData} {vs : List V}, allD ws = some ps → RVs K φ H ws vs → DaAll K φ.av H ps vs
  | [], _, _, e, r => by cases e; exact r
  | .d p :: ws, _, _, e, ⟨v, vs, ev, r, rs⟩ => by
    obtain ⟨q, e1, e2⟩ := Option.map_eq_some_iff.mp e
    cases e2
    exact ⟨v, vs, ev, r, allD_da e1 rs⟩
  | .loc n :: _, _, _, e, _ => by cases e
  | .kl n :: _, _, _, e, _ => by cases e
@[simp] def eTup (f : AF) (ρ : Rho) (μ : Mu) : Option (Vw × Mu) := match f ρ μ with
  | some (ws, μ1) => (match allD ws with
    | some ps => if ps.length ≤ 1000000 then some (.d (.tuple ps), μ1) else none
    | none => none)
  | none => none
@[simp] def eLst (f : AF) (ρ : Rho) (μ : Mu) : Option (Vw × Mu) := match f ρ μ with
  | some (ws, μ1) => (match allD ws with
    | some ps => if ps.length ≤ 1000000 then some (.d (.list ps), μ1) else none
    | none => none)
  | none => none
theorem size_ok {n : Nat} (h : n ≤ 1000000) : n ≤ sizeLine := by rw [sizeLine_eq]; omega
theorem size_lt {n : Nat} (h : n ≤ 1000000) : n < sizeLine := by rw [sizeLine_eq]; omega
theorem new_tup {K : PySem.W.Frag} {φ : Ph} {H : Hp} {μ : Mu} {ps : List PyData} {vs : List V} {Q : VK} (c : Cells K φ H μ) (hs : DaAll K φ.av H ps vs) (k : Post K φ H μ (.d (.tuple ps)) Q) : ∀ p, H p = none → Q (.ref p) (upd H p (.tup vs)) := fun p hp =>
  k φ _ _ (Grow.laid hp) (c.laid hp) ⟨p, vs, rfl, SqT.of upd_same, DaAll.step (Grow.laid hp).w _ _ hs⟩
theorem new_lst {K : PySem.W.Frag} {φ : Ph} {H : Hp} {μ : Mu} {ps : List PyData} {vs : List V} {Q : VK} (c : Cells K φ H μ) (hs : DaAll K φ.av H ps vs) (k : Post K φ H μ (.d (.list ps)) Q) : ∀ p, H p = none → Q (.ref p) (upd H p (.lst vs)) := fun p hp =>
  k φ _ _ (Grow.laid hp) (c.laid hp) ⟨p, vs, rfl, c.notin hp, upd_same, DaAll.step (Grow.laid hp).w _ _ hs⟩
theorem ej_tup {es : List Expr} {x1} {f : AF} (h : PA X es (tA X.K f)) : PE X (.Tuple es x1 pos) (tE X.K (eTup f)) := PE.to (pe_tup h) fun σ H Q ⟨φ, ρ, μ, w, μ', rs, e, k⟩ => by
  unfold eTup at e
  split at e
  · rename_i ws μ1 e1
    split at e
    · rename_i ps e2
      split at e
      · rename_i hl
        cases e
        refine ⟨φ, ρ, μ, ws, _, rs, e1, fun φ1 vs H1 g1 c1 r1 => ?_⟩
        have hd := allD_da e2 r1
        refine ⟨by rw [← hd.len]; exact size_ok hl, ?_⟩
        exact new_tup c1 hd fun φ2 v2 H2 g2 c2 r2 => k φ2 v2 H2 (g1.trans g2) c2 r2
      · cases e
    · cases e
  · cases e
theorem ej_lst {es : List Expr} {f : AF} (h : PA X es (tA X.K f)) : PE X (.List es pos) (tE X.K (eLst f)) := PE.to (pe_lst h) fun σ H Q ⟨φ, ρ, μ, w, μ', rs, e, k⟩ => by
  unfold eLst at e
  split at e
  · rename_i ws μ1 e1
    split at e
    · rename_i ps e2
      split at e
      · rename_i hl
        cases e
        refine ⟨φ, ρ, μ, ws, _, rs, e1, fun φ1 vs H1 g1 c1 r1 => ?_⟩
        have hd := allD_da e2 r1
        refine ⟨by rw [← hd.len]; exact size_ok hl, ?_⟩
        exact new_lst c1 hd fun φ2 v2 H2 g2 c2 r2 => k φ2 v2 H2 (g1.trans g2) c2 r2
      · cases e
    · cases e
  · cases e
end
end VL
end
section
set_option Elab.async false
set_option linter.all false
set_option maxRecDepth 100000
namespace VL
open PySem PySem.Spec PyProof.Rows L2
variable [LawTabs]
section
variable {K : PySem.W.Frag} {φ : Ph} {A : List Addr} {H : Hp} {μ : Mu}
/-- the items of a list (data, changed, from outside) -/
@[simp] def toL (μ : Mu) : Vw → Option (List PyData)
  | .d (.list ds) => some ds
  | .loc n => μ[n]?
  | .kl ns => some (ns.map PyData.int)
  | _ => none
/-- a tracked list's items -/
@[simp] def toLm (μ : Mu) : Vw → Option (List PyData)
  | .d (.list ds) => some ds
  | .loc n => μ[n]?
  | _ => none
/-- as data -/
@[simp] def toD (μ : Mu) : Vw → Option PyData
  | .d p => some p
  | .loc n => (μ[n]?).map PyData.list
  | .kl ns => some (.list (ns.map PyData.int))
  | .rg _ _ => none
theorem toLm_ok (c : Cells K φ H μ) {w : Vw} {v : V} {ds : List PyData} (r : RV K φ H w v) (e : toLm μ w = some ds) : ∃ a xs, v = .ref a ∧ H a = some (.lst xs) ∧ DaAll K φ.av H ds xs := by
  cases w with
  | d p =>
    cases p with
    | list es =>
      cases e
      obtain ⟨a, xs, e1, _, e3, e4⟩ := r
      exact ⟨a, xs, e1, e3, e4⟩
    | _ => cases e
  | loc n =>
    obtain ⟨a, h1, h2⟩ := r
    obtain ⟨xs, h3, h4⟩ := c.at_ n a ds h1 e
    exact ⟨a, xs, h2, h3, h4⟩
  | kl ns => cases e
  | rg lo hi => cases e
theorem toL_ok (c : Cells K φ H μ) {w : Vw} {v : V} {ds : List PyData} (r : RV K φ H w v) (e : toL μ w = some ds) : ∃ a xs, v = .ref a ∧ SqL K H a xs ∧ DaAll K φ.av H ds xs := by
  cases w with
  | kl ns =>
    cases e
    obtain ⟨a, h1, h2⟩ := r
    exact ⟨a, _, h1, h2.sq, DaAll.ints ns⟩
  | rg lo hi => cases e
  | d p =>
    obtain ⟨a, xs, h1, h2, h3⟩ := toLm_ok c (w := .d p) (ds := ds) r (by cases p <;> first | exact e | cases e)
    exact ⟨a, xs, h1, SqL.of h2, h3⟩
  | loc n =>
    obtain ⟨a, xs, h1, h2, h3⟩ := toLm_ok c (w := .loc n) (ds := ds) r e
    exact ⟨a, xs, h1, SqL.of h2, h3⟩
/-! as L2's data -/
mutual
theorem Da.dp : ∀ (p : PyData) (v : V), p.plain = true → Da K A H p v → Dp K H v p
  | .none, _, _, h => by cases h; exact .non
  | .bool _, _, _, h => by cases h; exact .bl _
  | .int _, _, _, h => by cases h; exact .int _
  | .str _, _, _, h => by cases h; exact .str _
  | .list ds, _, z, ⟨a, xs, e, hn, h, hs⟩ => by rw [e]; exact .lst (SqL.of h) (DaAll.dp ds xs z hs)
  | .tuple ds, _, z, ⟨a, xs, e, h, hs⟩ => by rw [e]; exact .tup h (DaAll.dp ds xs z hs)
  | .dict _, _, z, _ => by cases z
theorem DaAll.dp : ∀ (ds : List PyData) (xs : List V), PyData.plainAll ds = true → DaAll K A H ds xs → DpAll K H xs ds
  | [], _, _, h => by rw [show _ = _ from h]; exact .nil
  | d :: ds, _, z, ⟨v, vs, e, h, hs⟩ => by
    obtain ⟨z1, z2⟩ := Bool.and_eq_true_iff.mp z
    rw [e]; exact .cons (Da.dp d v z1 h) (DaAll.dp ds vs z2 hs)
end
theorem plain_ints : ∀ ns : List Int, PyData.plainAll (ns.map PyData.int) = true
  | [] => rfl
  | n :: ns => by rw [List.map_cons, PyData.plainAll, plain_ints ns]; rfl
theorem dp_ints : ∀ ns : List Int, DpAll K H (ns.map V.int) (ns.map PyData.int)
  | [] => .nil
  | n :: ns => .cons (.int n) (dp_ints ns)
theorem toD_ok (c : Cells K φ H μ) {w : Vw} {v : V} {p : PyData} (r : RV K φ H w v) (e : toD μ w = some p) (z : p.plain = true) : Dp K H v p := by
  cases w with
  | d q => cases e; exact Da.dp p v z r
  | loc n =>
    obtain ⟨ds, e1, e2⟩ := Option.map_eq_some_iff.mp e
    cases e2
    obtain ⟨a, h1, h2⟩ := r
    obtain ⟨xs, h3, h4⟩ := c.at_ n a ds h1 e1
    rw [h2]
    exact .lst (SqL.of h3) (DaAll.dp ds xs z h4)
  | kl ns =>
    cases e
    obtain ⟨a, h1, h2⟩ := r
    rw [h1]
    exact .lst h2.sq (dp_ints ns)
  | rg lo hi => cases e
theorem post_here {w : Vw} {Q : VK} {v : V} (k : Post K φ H μ w Q) (c : Cells K φ H μ) (r : RV K φ H w v) : Q v H := k φ v H (.refl _ _) c r
end
/-! ### numbers -/
@[simp] def iiO (C : Int → Int → Bool) (g : Int → Int → PyData) (_ : Mu) (x y : Vw) : Option Vw := match x, y with
  | .d (.int i), .d (.int j) => if C i j = true then some (.d (g i j)) else none
  | _, _ => none
def vOf : PyData → V
  | .int i => .int i
  | .bool b => .bl b
  | _ => .non
theorem iiO_ok {K : PySem.W.Frag} {C : Int → Int → Bool} {g : Int → Int → PyData} {C' : Int → Int → Prop} {g' : Int → Int → V} (hC : ∀ i j, C i j = true → C' i j) (hg : ∀ i j φ H, Da K φ H (g i j) (g' i j)) : O2 K (rI C' g') (iiO C g) := by
  intro φ H μ x y w u v Q c rx ry e k
  unfold iiO at e
  split at e
  · rename_i i j
    split at e
    · rename_i hc
      cases e
      exact ⟨i, j, rx, ry, hC i j hc, post_here k c (hg i j φ.av H)⟩
    · cases e
  · cases e
theorem iiO_ok0 {K : PySem.W.Frag} {g : Int → Int → PyData} {g' : Int → Int → V} (hg : ∀ i j φ H, Da K φ H (g i j) (g' i j)) : O2 K (rI0 g') (iiO (fun _ _ => true) g) := by
  intro φ H μ x y w u v Q c rx ry e k
  unfold iiO at e
  split at e
  · rename_i i j
    rw [if_pos rfl] at e
    cases e
    exact ⟨i, j, rx, ry, post_here k c (hg i j φ.av H)⟩
  · cases e
def CDivZ (i j : Int) : Prop := j ≠ 0 ∧ j.natAbs.log2 < 9000
theorem op_fdivZ {X : Cx} : OpR X (binaryOp .FloorDiv) (rI CDivZ fun i j => .int (i.fdiv j)) := opI fun _ _ _ _ _ _ _ hc q => floordiv_int hc.1 q (.inl (PyProof.noPylong_of_log2 hc.2))
abbrev oSub := iiO (fun _ _ => true) fun i j => .int (i - j)
/-- a factor is small, or both together are not too long -/
def mulOk (i j : Int) : Bool := decide ((i.natAbs < 2 ^ 64 ∨ j.natAbs < 2 ^ 64) ∨ i.natAbs.log2 + j.natAbs.log2 < 1000000)
def divOk (_ j : Int) : Bool := decide (j ≠ 0 ∧ j.natAbs.log2 < 9000)
theorem mulOk_l {i j : Int} (h : i.natAbs < 2 ^ 64) : mulOk i j = true := decide_eq_true (.inl (.inl h))
theorem mulOk_r {i j : Int} (h : j.natAbs < 2 ^ 64) : mulOk i j = true := decide_eq_true (.inl (.inr h))
theorem mulOk_w {i j : Int} {a b : Nat} (ha : i.natAbs < 2 ^ a) (hb : j.natAbs < 2 ^ b) (h : a + b ≤ 999998) : mulOk i j = true := by
  refine decide_eq_true (.inr ?_)
  have h1 := PySem.Flt.log2_lt_of (Nat.succ_pos a) (Nat.lt_of_lt_of_le ha (Nat.pow_le_pow_right (by decide) (Nat.le_succ a)))
  have h2 := PySem.Flt.log2_lt_of (Nat.succ_pos b) (Nat.lt_of_lt_of_le hb (Nat.pow_le_pow_right (by decide) (Nat.le_succ b)))
  omega
theorem divOk_of {i j : Int} {b : Nat} (h : j ≠ 0) (hb : j.natAbs < 2 ^ b) (h9 : b ≤ 8999) : divOk i j = true := by
  refine decide_eq_true ⟨h, ?_⟩
  have h2 := PySem.Flt.log2_lt_of (Nat.succ_pos b) (Nat.lt_of_lt_of_le hb (Nat.pow_le_pow_right (by decide) (Nat.le_succ b)))
  omega
abbrev oMul := iiO mulOk fun i j => .int (i * j)
abbrev oDiv := iiO divOk fun i j => .int (i.fdiv j)
def CMulV (i j : Int) : Prop := CMul i j ∨ CMulW i j
theorem op_mulV {X : Cx} : OpR X (binaryOp .Mult) (rI CMulV fun i j => .int (i * j)) := opI fun _ _ _ _ _ _ _ hc q => mul_int q (hc.elim (·.ok) (·.ok))
theorem mulOk_C {i j : Int} (h : mulOk i j = true) : CMulV i j := by
  rcases of_decide_eq_true h with (h | h) | h
  · exact .inl (.inl (by omega))
  · exact .inl (.inr (by omega))
  · exact .inr h
abbrev oMod := iiO (fun i j => decide (j ≠ 0)) fun i j => .int (i.fmod j)
abbrev oPow := iiO (fun i j => decide (0 ≤ j ∧ j ≤ 1000000 ∧ i.natAbs < 2 ^ 64)) fun i j => .int (i ^ j.toNat)
abbrev oLt := iiO (fun _ _ => true) fun i j => .bool (decide (i < j))
abbrev oLe := iiO (fun _ _ => true) fun i j => .bool (decide (i ≤ j))
abbrev oGt := iiO (fun _ _ => true) fun i j => .bool (decide (j < i))
abbrev oGe := iiO (fun _ _ => true) fun i j => .bool (decide (j ≤ i))
/-- + : ints, tuples, texts, lists -/
@[simp] def oAdd (μ : Mu) (x y : Vw) : Option Vw := match x, y with
  | .d (.int i), .d (.int j) => some (.d (.int (i + j)))
  | .d (.tuple xs), .d (.tuple ys) => if xs.length + ys.length ≤ 1000000 then some (.d (.tuple (xs ++ ys))) else none
  | x, y => match toLm μ x, toLm μ y with
    | some xs, some ys => if xs.length + ys.length ≤ 1000000 then some (.d (.list (xs ++ ys))) else none
    | _, _ => none
def rAddV (K : PySem.W.Frag) : R2 := fun x y H Q => rI0 (fun i j => .int (i + j)) x y H Q ∨ (rCatA K x y H Q ∨ rCat x y H Q)
theorem op_addV {X : Cx} : OpR X (binaryOp .Add) (rAddV X.K) := OpR.or op_add (OpR.or op_catA op_cat)
theorem oAdd_ok {K : PySem.W.Frag} : O2 K (rAddV K) oAdd := by
  intro φ H μ x y w u v Q c rx ry e k
  unfold oAdd at e
  split at e
  · rename_i i j
    cases e
    exact .inl ⟨i, j, rx, ry, post_here k c rfl⟩
  · rename_i xs ys
    split at e
    · rename_i hl
      cases e
      obtain ⟨a, us, e1, h1, s1⟩ := rx
      obtain ⟨b, vs, e2, h2, s2⟩ := ry
      have l1 := s1.len
      have l2 := s2.len
      refine .inr (.inl ⟨a, b, us, vs, e1, e2, h1, h2, size_ok (by omega), fun z => ?_, fun _ z => ?_, fun _ _ => ?_⟩)
      · subst z
        have : xs = [] := List.eq_nil_of_length_eq_zero l1
        subst this
        exact post_here k c (show RV K φ H (.d (.tuple ([] ++ ys))) _ from ⟨b, vs, rfl, h2, s2⟩)
      · subst z
        have : ys = [] := List.eq_nil_of_length_eq_zero l2
        subst this
        exact post_here k c (show RV K φ H (.d (.tuple (xs ++ []))) _ from ⟨a, us, rfl, h1, by rw [List.append_nil]; exact s1⟩)
      · exact new_tup c (s1.append s2) k
    · cases e
  · split at e
    · rename_i xs ys e1 e2
      split at e
      · rename_i hl
        cases e
        obtain ⟨a, us, q1, h1, s1⟩ := toLm_ok c rx e1
        obtain ⟨b, vs, q2, h2, s2⟩ := toLm_ok c ry e2
        have l1 := s1.len
        have l2 := s2.len
        exact .inr (.inr ⟨a, b, us, vs, q1, q2, h1, h2, size_ok (by omega), new_lst c (s1.append s2) k⟩)
      · cases e
    · cases e
section
variable {X : Cx} {a b : Expr} {pos : Pos} {f g : EF}
theorem ej_add (ha : PE X a (tE X.K f)) (hb : PE X b (tE X.K g)) : PE X (.BinOp a .Add b pos) (tE X.K (eB2 oAdd f g)) := ej_op op_addV oAdd_ok ha hb
theorem ej_sub (ha : PE X a (tE X.K f)) (hb : PE X b (tE X.K g)) : PE X (.BinOp a .Sub b pos) (tE X.K (eB2 oSub f g)) := ej_op op_sub (iiO_ok0 fun _ _ _ _ => rfl) ha hb
theorem ej_mul (ha : PE X a (tE X.K f)) (hb : PE X b (tE X.K g)) : PE X (.BinOp a .Mult b pos) (tE X.K (eB2 oMul f g)) := ej_op op_mulV (iiO_ok (fun i j h => mulOk_C h) fun _ _ _ _ => rfl) ha hb
theorem ej_div (ha : PE X a (tE X.K f)) (hb : PE X b (tE X.K g)) : PE X (.BinOp a .FloorDiv b pos) (tE X.K (eB2 oDiv f g)) := ej_op op_fdivZ (iiO_ok (fun i j h => show j ≠ 0 ∧ j.natAbs.log2 < 9000 from of_decide_eq_true h) fun _ _ _ _ => rfl) ha hb
theorem ej_mod (ha : PE X a (tE X.K f)) (hb : PE X b (tE X.K g)) : PE X (.BinOp a .Mod b pos) (tE X.K (eB2 oMod f g)) := ej_op op_modN (iiO_ok (fun _ _ h => of_decide_eq_true h) fun _ _ _ _ => rfl) ha hb
theorem ej_pow (ha : PE X a (tE X.K f)) (hb : PE X b (tE X.K g)) : PE X (.BinOp a .Pow b pos) (tE X.K (eB2 oPow f g)) := ej_op op_pow (iiO_ok (fun i j h => show 0 ≤ j ∧ j ≤ 1000000 ∧ i.natAbs < 2 ^ 64 from of_decide_eq_true h) fun _ _ _ _ => rfl) ha hb
end
@[simp] def oNeg (_ : Mu) (x : Vw) : Option Vw := match x with
  | .d (.int i) => some (.d (.int (-i)))
  | _ => none
theorem oNeg_ok {K : PySem.W.Frag} : O1 K (rU fun i => .int (-i)) oNeg := by
  intro φ H μ x w u Q c rx e k
  unfold oNeg at e
  split at e
  · rename_i i
    cases e
    exact ⟨i, rx, post_here k c rfl⟩
  · cases e
theorem ej_neg {X : Cx} {a : Expr} {pos : Pos} {f : EF} (ha : PE X a (tE X.K f)) : PE X (.UnaryOp .USub a pos) (tE X.K (eB1 oNeg f)) := ej_un un_neg oNeg_ok ha
/-! ### comparisons -/
@[simp] def oEq (neg : Bool) (μ : Mu) (x y : Vw) : Option Vw := match toD μ x, toD μ y with
  | some p, some q => if (p.plain && q.plain && decide (min p.depth q.depth ≤ 100)) = true then some (.d (.bool (if neg then !PyData.eqv p q else PyData.eqv p q))) else none
  | _, _ => none
def rEqP (K : PySem.W.Frag) (neg : Bool) : R2 := fun x y H Q => ∃ p q, Dp K H x p ∧ Dp K H y q ∧ p.plain = true ∧ q.plain = true ∧ min p.depth q.depth ≤ 100 ∧ Q (.bl (if neg then !PyData.eqv p q else PyData.eqv p q)) H
theorem op_eqP {X : Cx} (hu : X.A.units + 200 < cLine) : OpR X (compareOp .Eq) (rEqP X.K false) := by
  intro pins s σ H x y v u Q I rx ry h
  obtain ⟨d, e, hd, he, sd, se, hm, q⟩ := h
  obtain ⟨as, r1⟩ := Dp.reads I d x v hd rx
  obtain ⟨bs, r2⟩ := Dp.reads I e y u he ry
  exact SeqAt.eq_plain r1 r2 sd se (by omega) ⟨.bl _, H, I, rfl, q⟩
theorem op_neP {X : Cx} (hu : X.A.units + 200 < cLine) : OpR X (compareOp .NotEq) (rEqP X.K true) := by
  intro pins s σ H x y v u Q I rx ry h
  obtain ⟨d, e, hd, he, sd, se, hm, q⟩ := h
  obtain ⟨as, r1⟩ := Dp.reads I d x v hd rx
  obtain ⟨bs, r2⟩ := Dp.reads I e y u he ry
  exact SeqAt.ne_plain r1 r2 sd se (by omega) ⟨.bl _, H, I, rfl, q⟩
theorem oEq_ok {K : PySem.W.Frag} {neg : Bool} : O2 K (rEqP K neg) (oEq neg) := by
  intro φ H μ x y w u v Q c rx ry e k
  unfold oEq at e
  split at e
  · rename_i p q e1 e2
    split at e
    · rename_i hc
      cases e
      simp only [Bool.and_eq_true, decide_eq_true_eq] at hc
      obtain ⟨⟨h1, h2⟩, h3⟩ := hc
      exact ⟨p, q, toD_ok c rx e1 h1, toD_ok c ry e2 h2, h1, h2, h3, post_here k c rfl⟩
    · cases e
  · cases e
/-- in, not in a list, a tuple -/
@[simp] def oIn (neg : Bool) (μ : Mu) (x y : Vw) : Option Vw := match toD μ x, toD μ y with
  | some p, some (.list qs) => if (p.plain && PyData.plainAll qs && decide (min (PyData.depthAll qs) p.depth ≤ 100)) = true then some (.d (.bool (if neg then !qs.any fun z => PyData.eqv z p else qs.any fun z => PyData.eqv z p))) else none
  | some p, some (.tuple qs) => if (p.plain && PyData.plainAll qs && decide (min (PyData.depthAll qs) p.depth ≤ 100)) = true then some (.d (.bool (if neg then !qs.any fun z => PyData.eqv z p else qs.any fun z => PyData.eqv z p))) else none
  | _, _ => none
def rInP (K : PySem.W.Frag) (neg : Bool) : R2 := fun x y H Q => ∃ p qs, Dp K H x p ∧ (Dp K H y (.list qs) ∨ Dp K H y (.tuple qs)) ∧ p.plain = true ∧ PyData.plainAll qs = true ∧ min (PyData.depthAll qs) p.depth ≤ 100 ∧ Q (.bl (if neg then !qs.any fun z => PyData.eqv z p else qs.any fun z => PyData.eqv z p)) H
theorem op_inP {X : Cx} (hu : X.A.units + 200 < cLine) : OpR X (compareOp .In) (rInP X.K false) := by
  intro pins s σ H x y v u Q I rx ry h
  obtain ⟨d, e, hd, he, sd, se, hm, q⟩ := h
  obtain ⟨as, r1⟩ := Dp.reads I d x v hd rx
  rcases he with he | he
  · obtain ⟨bs, r2⟩ := Dp.reads I _ y u he ry
    exact SeqAt.in_list_data r2 r1 se sd (by omega) ⟨.bl _, H, I, rfl, q⟩
  · obtain ⟨bs, r2⟩ := Dp.reads I _ y u he ry
    exact SeqAt.in_tuple_data r2 r1 se sd (by omega) ⟨.bl _, H, I, rfl, q⟩
theorem op_niP {X : Cx} (hu : X.A.units + 200 < cLine) : OpR X (compareOp .NotIn) (rInP X.K true) := by
  intro pins s σ H x y v u Q I rx ry h
  obtain ⟨d, e, hd, he, sd, se, hm, q⟩ := h
  obtain ⟨as, r1⟩ := Dp.reads I d x v hd rx
  rcases he with he | he
  · obtain ⟨bs, r2⟩ := Dp.reads I _ y u he ry
    exact SeqAt.notIn_list_data r2 r1 se sd (by omega) ⟨.bl _, H, I, rfl, q⟩
  · obtain ⟨bs, r2⟩ := Dp.reads I _ y u he ry
    exact SeqAt.notIn_tuple_data r2 r1 se sd (by omega) ⟨.bl _, H, I, rfl, q⟩
theorem oIn_ok {K : PySem.W.Frag} {neg : Bool} : O2 K (rInP K neg) (oIn neg) := by
  intro φ H μ x y w u v Q c rx ry e k
  unfold oIn at e
  split at e
  · rename_i p qs e1 e2
    split at e
    · rename_i hc
      cases e
      simp only [Bool.and_eq_true, decide_eq_true_eq] at hc
      obtain ⟨⟨h1, h2⟩, h3⟩ := hc
      exact ⟨p, qs, toD_ok c rx e1 h1, .inl (toD_ok c ry e2 h2), h1, h2, h3, post_here k c rfl⟩
    · cases e
  · rename_i p qs e1 e2
    split at e
    · rename_i hc
      cases e
      simp only [Bool.and_eq_true, decide_eq_true_eq] at hc
      obtain ⟨⟨h1, h2⟩, h3⟩ := hc
      exact ⟨p, qs, toD_ok c rx e1 h1, .inr (toD_ok c ry e2 h2), h1, h2, h3, post_here k c rfl⟩
    · cases e
  · cases e
/-- x is None, x is not None -/
@[simp] def oIs (neg : Bool) (μ : Mu) (x y : Vw) : Option Vw := match x, y with
  | .d p, .d .none => some (.d (.bool (match p with
    | .none => !neg
    | _ => neg)))
  | _, _ => none
theorem oIs_ok {K : PySem.W.Frag} : O2 K (fun x y H Q => y = .non ∧ Q (.bl (decide (x = .non))) H) (oIs false) := by
  intro φ H μ x y w u v Q c rx ry e k
  unfold oIs at e
  split at e
  · rename_i p
    cases e
    refine ⟨ry, ?_⟩
    cases p with
    | none => cases rx; exact post_here k c rfl
    | bool _ => cases rx; exact post_here k c rfl
    | int _ => cases rx; exact post_here k c rfl
    | str _ => cases rx; exact post_here k c rfl
    | list _ => obtain ⟨a, _, e, _⟩ := rx; subst e; exact post_here k c rfl
    | tuple _ => obtain ⟨a, _, e, _⟩ := rx; subst e; exact post_here k c rfl
    | dict _ =>
      obtain ⟨a, e⟩ := Da.dictRef rx
      subst e; exact post_here k c rfl
  · cases e
theorem oIsNot_ok {K : PySem.W.Frag} : O2 K (fun x y H Q => y = .non ∧ Q (.bl (!decide (x = .non))) H) (oIs true) := by
  intro φ H μ x y w u v Q c rx ry e k
  unfold oIs at e
  split at e
  · rename_i p
    cases e
    refine ⟨ry, ?_⟩
    cases p with
    | none => cases rx; exact post_here k c rfl
    | bool _ => cases rx; exact post_here k c rfl
    | int _ => cases rx; exact post_here k c rfl
    | str _ => cases rx; exact post_here k c rfl
    | list _ => obtain ⟨a, _, e, _⟩ := rx; subst e; exact post_here k c rfl
    | tuple _ => obtain ⟨a, _, e, _⟩ := rx; subst e; exact post_here k c rfl
    | dict _ =>
      obtain ⟨a, e⟩ := Da.dictRef rx
      subst e; exact post_here k c rfl
  · cases e
/-! ### items -/
@[simp] def oIx (μ : Mu) (x y : Vw) : Option Vw := match x, y with
  | .d (.tuple ds), .d (.int i) => (atI ds i).map Vw.d
  | x, .d (.int i) => (toL μ x).bind fun ds => (atI ds i).map Vw.d
  | _, _ => none
def rIxV (K : PySem.W.Frag) : R2 := fun x y H Q => rIxL K x y H Q ∨ rIxT K x y H Q
theorem ix_V {X : Cx} : IxR X (rIxV X.K) := IxR.or ix_list ix_tup
theorem atI_da {K : PySem.W.Frag} {φ : List Addr} {H : Hp} {ds : List PyData} {xs : List V} {i : Int} {d : PyData} (h : DaAll K φ H ds xs) (e : atI ds i = some d) : ∃ v, atI xs i = some v ∧ Da K φ H d v := by
  unfold atI at e ⊢
  rw [← h.len]
  cases q : ixN ds.length i with
  | none => rw [q] at e; cases e
  | some j =>
    rw [q] at e
    exact h.get (show ds[j]? = some d from e)
theorem oIx_ok {K : PySem.W.Frag} : O2 K (rIxV K) oIx := by
  intro φ H μ x y w u v Q c rx ry e k
  unfold oIx at e
  split at e
  · rename_i ds i
    obtain ⟨d, e1, e2⟩ := Option.map_eq_some_iff.mp e
    cases e2
    obtain ⟨a, xs, q, h, s⟩ := rx
    obtain ⟨z, z1, z2⟩ := atI_da s e1
    exact .inr ⟨a, xs, i, z, q, ry, h, z1, post_here k c z2⟩
  · rename_i i hne
    obtain ⟨ds, e0, e⟩ := Option.bind_eq_some_iff.mp e
    obtain ⟨d, e1, e2⟩ := Option.map_eq_some_iff.mp e
    cases e2
    obtain ⟨a, xs, q, h, s⟩ := toL_ok c rx e0
    obtain ⟨z, z1, z2⟩ := atI_da s e1
    exact .inl ⟨a, xs, i, z, q, ry, h, z1, post_here k c z2⟩
  · cases e
section
variable {X : Cx} {a b : Expr} {pos : Pos} {f g : EF}
theorem ej_item (ha : PE X a (tE X.K f)) (hb : PE X b (tE X.K g)) (hs : PlainIx b := by exact fun _ _ => rfl) : PE X (.Subscript a b pos) (tE X.K (eB2 oIx f g)) := ej_ix ix_V oIx_ok ha hb hs
end
end VL
end
section
set_option Elab.async false
set_option linter.all false
set_option maxRecDepth 100000
namespace VL
open PySem PySem.Spec PyProof.Rows L2
variable [LawTabs]
theorem wipe_put {i : Nat} {v : V} {σ : L2.St} : ∀ {us : List Nat}, i ∈ us → wipe (σ.set i (some v)) us = wipe σ us
  | [], h => by cases h
  | u :: us, h => by
    unfold wipe
    by_cases e : i ∈ us
    · rw [wipe_put e]
    · have e2 : i = u := by
        rcases List.mem_cons.mp h with h | h
        · exact h
        · exact absurd h e
      subst e2
      apply List.ext_getElem?
      intro j
      by_cases ej : j = i
      · subst ej
        by_cases hl : j < σ.length
        · rw [List.getElem?_set_self (by rw [wipe_length, List.length_set]; exact hl), List.getElem?_set_self (by rw [wipe_length]; exact hl)]
        · rw [List.getElem?_eq_none (by simp [wipe_length]; omega), List.getElem?_eq_none (by simp [wipe_length]; omega)]
      · rw [List.getElem?_set_ne (Ne.symm ej), List.getElem?_set_ne (Ne.symm ej)]
        by_cases hj : j ∈ us
        · have aux : ∀ (τ τ' : L2.St) (ws : List Nat), τ.length = τ'.length → j ∈ ws → (wipe τ ws)[j]? = (wipe τ' ws)[j]? := by
            intro τ τ' ws hlen
            induction ws with
            | nil => intro z; cases z
            | cons w ws ih =>
              intro z
              unfold wipe
              by_cases ew : j = w
              · subst ew
                by_cases hl : j < τ.length
                · rw [List.getElem?_set_self (by rw [wipe_length]; exact hl), List.getElem?_set_self (by rw [wipe_length, ← hlen]; exact hl)]
                · rw [List.getElem?_eq_none (by simp [wipe_length]; omega), List.getElem?_eq_none (by simp [wipe_length]; omega)]
              · rw [List.getElem?_set_ne (Ne.symm ew), List.getElem?_set_ne (Ne.symm ew)]
                exact ih ((List.mem_cons.mp z).resolve_left ew)
          exact aux _ _ us (by simp) hj
        · rw [wipe_out hj, wipe_out hj, List.getElem?_set_ne (Ne.symm ej)]
/-! ### targets -/
abbrev TF := Vw → Rho → Option Rho
abbrev TLF := List PyData → Rho → Option Rho
@[simp] def tNm (i : Nat) (w : Vw) (ρ : Rho) : Option Rho := some (ρ.set i (some w))
@[simp] def tTp (t : TLF) (w : Vw) (ρ : Rho) : Option Rho := match w with
  | .d (.tuple ds) => t ds ρ
  | _ => none
@[simp] def lNil (ds : List PyData) (ρ : Rho) : Option Rho := match ds with
  | [] => some ρ
  | _ :: _ => none
@[simp] def lCons (t : TF) (u : TLF) (ds : List PyData) (ρ : Rho) : Option Rho := match ds with
  | [] => none
  | d :: r => (t (.d d) ρ).bind (u r)
def tG (K : PySem.W.Frag) (t : TF) (vs : List Nat) : TG := fun v σ H Q => ∃ φ ρ μ w ρ', RS K φ σ H ρ μ ∧ RV K φ H w v ∧ t w ρ = some ρ' ∧ ∀ σ', RS K φ σ' H ρ' μ → (∀ us : List Nat, (∀ i ∈ vs, i ∈ us) → wipe σ' us = wipe σ us) → Q σ' H
def tGs (K : PySem.W.Frag) (n : Nat) (t : TLF) (vs : List Nat) : TGs := fun xs σ H Q => ∃ φ ρ μ ds ρ', RS K φ σ H ρ μ ∧ DaAll K φ.av H ds xs ∧ t ds ρ = some ρ' ∧ ∀ σ', RS K φ σ' H ρ' μ → (∀ us : List Nat, (∀ i ∈ vs, i ∈ us) → wipe σ' us = wipe σ us) → Q σ' H
theorem PG.to {X : Cx} {e : Expr} {t u : TG} (h : PG X e t) (k : ∀ v σ H Q, u v σ H Q → t v σ H Q) : PG X e u := ⟨fun pins s σ H x v Q I r q => h.run pins s σ H x v Q I r (k x σ H Q q)⟩
theorem PGs.to {X : Cx} {e : List Expr} {t u : TGs} (h : PGs X e t) (k : ∀ v σ H Q, u v σ H Q → t v σ H Q) : PGs X e u := ⟨fun pins s σ H x v Q I r q => h.run pins s σ H x v Q I r (k x σ H Q q)⟩
section
variable {X : Cx} {pos : Pos}
theorem gj_nm (i : Nat) {x : Str} (hN : X.N.Nodup) (hi : X.N[i]? = some x := by rfl) (hx : Loc X.env.scope x := by first | exact Or.inl rfl | exact Or.inr rfl) (hf : X.fn x = true ∨ X.env.scope.names.lookup x = some .local := by first | exact .inl rfl | exact .inr rfl) : PG X (.Name x pos) (tG X.K (tNm i) [i]) :=
  PG.to (pg_name hN hi hx hf) fun v σ H Q ⟨φ, ρ, μ, w, ρ', rs, rv, e, k⟩ => by
    cases e
    exact k _ (rs.put rv) fun us hu => wipe_put (hu i (by simp))
theorem gjs_nil : PGs X [] (tGs X.K 0 lNil []) := PGs.to pgs_nil fun xs σ H Q ⟨φ, ρ, μ, ds, ρ', rs, hd, e, k⟩ => by
  cases ds with
  | nil => cases e; exact ⟨hd, k σ rs fun _ _ => rfl⟩
  | cons d ds => cases e
theorem gjs_cons {a : Expr} {es : List Expr} {t : TF} {u : TLF} {vs ws : List Nat} {n : Nat} (h1 : PG X a (tG X.K t vs)) (h2 : PGs X es (tGs X.K n u ws)) (hs : (assignEach (a :: es) X.env).map (·.2) = assign a X.env :: (assignEach es X.env).map (·.2) := by rfl) :
    PGs X (a :: es) (tGs X.K (n + 1) (lCons t u) (vs ++ ws)) := PGs.to (pgs_cons h1 h2 hs) fun xs σ H Q ⟨φ, ρ, μ, ds, ρ', rs, hd, e, k⟩ => by
  cases ds with
  | nil => cases e
  | cons d ds =>
    obtain ⟨v, r, ev, h3, h4⟩ := hd
    obtain ⟨ρ1, e1, e2⟩ := Option.bind_eq_some_iff.mp e
    refine ⟨v, r, ev, φ, ρ, μ, .d d, ρ1, rs, h3, e1, fun σ1 rs1 w1 => ?_⟩
    refine ⟨φ, ρ1, μ, ds, ρ', rs1, h4, e2, fun σ2 rs2 w2 => ?_⟩
    exact k σ2 rs2 fun us hu => (w2 us fun i hi => hu i (List.mem_append_right _ hi)).trans (w1 us fun i hi => hu i (List.mem_append_left _ hi))
theorem tlf_len : True := trivial
theorem gj_tp {es : List Expr} {k : Nat} {u : TLF} {vs : List Nat} {n : Nat} (hc : X.calm = true) (h : PGs X es (tGs X.K n u vs)) (hl : ∀ ds ρ ρ', u ds ρ = some ρ' → ds.length = n)
    (hn : (assignEach es X.env).length = n := by rfl) (hst : (assignEach es X.env).findIdx? (·.1) = none := by rfl) : PG X (.Tuple es k pos) (tG X.K (tTp u) vs) :=
  PG.to (pg_tup hc h hn hst) fun v σ H Q ⟨φ, ρ, μ, w, ρ', rs, rv, e, k⟩ => by
    unfold tTp at e
    split at e
    · rename_i ds
      obtain ⟨a, xs, e1, h1, h2⟩ := rv
      exact ⟨a, xs, e1, h1, by rw [← h2.len]; exact hl ds ρ ρ' e, φ, ρ, μ, ds, ρ', rs, h2, e, k⟩
    · cases e
theorem lNil_len : ∀ ds ρ ρ', lNil ds ρ = some ρ' → ds.length = 0 := fun ds ρ ρ' e => by
  cases ds with
  | nil => rfl
  | cons d ds => cases e
theorem lCons_len {t : TF} {u : TLF} {n : Nat} (h : ∀ ds ρ ρ', u ds ρ = some ρ' → ds.length = n) : ∀ ds ρ ρ', lCons t u ds ρ = some ρ' → ds.length = n + 1 := fun ds ρ ρ' e => by
  cases ds with
  | nil => cases e
  | cons d ds =>
    obtain ⟨ρ1, e1, e2⟩ := Option.bind_eq_some_iff.mp e
    rw [List.length_cons, h ds ρ1 ρ' e2]
/-! ### statements -/
@[simp] def sNx (ρ : Rho) (μ : Mu) : Option SR := some (.nx ρ μ)
@[simp] def sNever (_ : Rho) (_ : Mu) : Option SR := none
@[simp] def sSeq (g h : SF) (ρ : Rho) (μ : Mu) : Option SR := match g ρ μ with
  | some (.nx ρ1 μ1) => h ρ1 μ1
  | r => r
@[simp] def sAsg (f : EF) (t : TF) (ρ : Rho) (μ : Mu) : Option SR := match f ρ μ with
  | some (w, μ1) => (t w ρ).map fun ρ1 => .nx ρ1 μ1
  | none => none
@[simp] def sPar (i j : Nat) (f : AF) (ρ : Rho) (μ : Mu) : Option SR := match f ρ μ with
  | some ([v, w], μ1) => some (.nx ((ρ.set i (some v)).set j (some w)) μ1)
  | _ => none
@[simp] def sIf (t : BF) (g h : SF) (ρ : Rho) (μ : Mu) : Option SR := match t ρ μ with
  | some (true, μ1) => g ρ μ1
  | some (false, μ1) => h ρ μ1
  | none => none
@[simp] def sRet (f : EF) (ρ : Rho) (μ : Mu) : Option SR := (f ρ μ).map fun r => .rt r.1 r.2
@[simp] def sDrop (f : EF) (ρ : Rho) (μ : Mu) : Option SR := (f ρ μ).map fun r => .nx ρ r.2
theorem ssj_nil : PSs X [] (tS X.K sNx) := PSs.to pss_nil fun D σ H ⟨φ, ρ, μ, rs, k⟩ => k φ σ H (.refl _ _) rs
theorem sj_pass : PS X (.Pass pos) (tS X.K sNx) := PS.to ps_pass fun D σ H ⟨φ, ρ, μ, rs, k⟩ => k φ σ H (.refl _ _) rs
theorem sj_never {st : Stmt} : PS X st (tS X.K sNever) := PS.to ps_never fun D σ H ⟨φ, ρ, μ, rs, k⟩ => k
theorem ssj_one {st : Stmt} {g : SF} (h : PS X st (tS X.K g)) : PSs X [st] (tS X.K g) := pss_one h
theorem ssj_cons {st : Stmt} {rest : List Stmt} {g h : SF} (h1 : PS X st (tS X.K g)) (h2 : PSs X rest (tS X.K h)) : PSs X (st :: rest) (tS X.K (sSeq g h)) := PSs.to (pss_cons h1 h2) fun D σ H ⟨φ, ρ, μ, rs, k⟩ => by
  refine ⟨φ, ρ, μ, rs, ?_⟩
  unfold sSeq at k
  cases e : g ρ μ with
  | none => rw [e] at k; exact k
  | some r =>
    rw [e] at k
    cases r with
    | nx ρ1 μ1 => exact fun φ1 σ1 H1 g1 r1 => ⟨φ1, ρ1, μ1, r1, k.grow g1⟩
    | rt w μ1 => exact k
    | bk ρ1 μ1 => exact k
    | ct ρ1 μ1 => exact k
theorem sj_ret {e : Expr} {f : EF} (h : PE X e (tE X.K f)) : PS X (.Return (some e) pos) (tS X.K (sRet f)) := PS.to (ps_ret h) fun D σ H ⟨φ, ρ, μ, rs, k⟩ => by
  unfold sRet at k
  cases e1 : f ρ μ with
  | none => rw [e1] at k; exact k.elim
  | some r =>
    rw [e1] at k
    exact ⟨φ, ρ, μ, r.1, r.2, rs, e1, k⟩
theorem sj_retN : PS X (.Return none pos) (tS X.K (sRet (eC .none))) := PS.to ps_retN fun D σ H ⟨φ, ρ, μ, rs, k⟩ => k φ .non H (.refl _ _) rs.c rfl
theorem sj_expr {e : Expr} {f : EF} (h : PE X e (tE X.K f)) (hs : swapsWith e none pos.line X.env = pure false := by rfl) : PS X (.Expr e pos) (tS X.K (sDrop f)) := PS.to (ps_expr h hs) fun D σ H ⟨φ, ρ, μ, rs, k⟩ => by
  unfold sDrop at k
  cases e1 : f ρ μ with
  | none => rw [e1] at k; exact k.elim
  | some r =>
    rw [e1] at k
    exact ⟨φ, ρ, μ, r.1, r.2, rs, e1, fun φ1 v1 H1 g1 c1 r1 => k φ1 σ H1 g1 (rs.step g1 c1)⟩
theorem tS_asg {K : PySem.W.Frag} {f : EF} {t : TF} {vs : List Nat} : ∀ D σ H, tS K (sAsg f t) D σ H → tAsg (tE K f) (tG K t vs) D σ H := fun D σ H ⟨φ, ρ, μ, rs, k⟩ => by
  unfold sAsg at k
  cases e1 : f ρ μ with
  | none => rw [e1] at k; exact k.elim
  | some r =>
    obtain ⟨w, μ1⟩ := r
    rw [e1] at k
    simp only at k
    cases e2 : t w ρ with
    | none => rw [e2] at k; exact k.elim
    | some ρ1 =>
      rw [e2] at k
      refine ⟨φ, ρ, μ, w, μ1, rs, e1, fun φ1 v1 H1 g1 c1 r1 => ?_⟩
      exact ⟨φ1, ρ, μ1, w, ρ1, rs.step g1 c1, r1, e2, fun σ2 r2 _ => k φ1 σ2 H1 g1 r2⟩
theorem sj_asg {tg e : Expr} {f : EF} {t : TF} {vs : List Nat} (he : PE X e (tE X.K f)) (hg : PG X tg (tG X.K t vs)) (hs : swapsWithSole [tg] e pos.line X.env = pure false := by rfl) (hw : swappedStores [tg] e X.env = pure none := by rfl) (h1 : (assignEach [tg] X.env).map (·.2) = [assign tg X.env] := by rfl) :
    PS X (.Assign [tg] e pos) (tS X.K (sAsg f t)) := PS.to (ps_asg he hg hs hw h1) tS_asg
theorem sj_set {i : Nat} {x : Str} {e : Expr} {f : EF} {pos' : Pos} (hN : X.N.Nodup) (he : PE X e (tE X.K f)) (hi : X.N[i]? = some x := by rfl) (hx : Loc X.env.scope x := by first | exact Or.inl rfl | exact Or.inr rfl) (hs : swapsWith e (some (.Name x pos')) pos.line X.env = pure false := by rfl)
    (hf : X.fn x = true ∨ X.env.scope.names.lookup x = some .local := by first | exact .inl rfl | exact .inr rfl) : PS X (.Assign [.Name x pos'] e pos) (tS X.K (sAsg f (tNm i))) := PS.to (ps_set hN hi hx he hs hf) fun D σ H q => by
  obtain ⟨φ, ρ, μ, w, μ1, rs, e1, k⟩ := tS_asg (vs := [i]) D σ H q
  refine ⟨φ, ρ, μ, w, μ1, rs, e1, fun φ1 v1 H1 g1 c1 r1 => ?_⟩
  obtain ⟨φ2, ρ2, μ2, w2, ρ3, rs2, rv2, e2, k2⟩ := k φ1 v1 H1 g1 c1 r1
  cases e2
  exact k2 _ (rs2.put rv2) fun us hu => wipe_put (hu i (by simp))
theorem sj_par {i j : Nat} {x y : Str} {a b : Expr} {f : AF} {px py pt : Pos} {kt k2 pt2} (hc : X.calm = true) (hN : X.N.Nodup) (hij : i ≠ j) (ha : PA X [a, b] (tA X.K f)) (hi : X.N[i]? = some x := by rfl) (hj : X.N[j]? = some y := by rfl)
    (hx : X.env.scope.names.lookup x = some .local := by rfl) (hy : X.env.scope.names.lookup y = some .local := by rfl)
    (hw : swappedStores [.Tuple [.Name x px, .Name y py] kt pt] (.Tuple [a, b] k2 pt2) X.env = pure (some [x, y]) := by rfl)
    (hs : swapsWithSole [.Tuple [.Name x px, .Name y py] kt pt] (.Tuple [a, b] k2 pt2) pos.line X.env = pure false := by rfl) :
    PS X (.Assign [.Tuple [.Name x px, .Name y py] kt pt] (.Tuple [a, b] k2 pt2) pos) (tS X.K (sPar i j f)) := PS.to (ps_par hc hN hi hj hij hx hy ha hw hs) fun D σ H ⟨φ, ρ, μ, rs, k⟩ => by
  unfold sPar at k
  split at k
  · rename_i v w μ1 e1
    refine ⟨φ, ρ, μ, _, μ1, rs, e1, fun φ1 vs H1 g1 c1 r1 => ?_⟩
    obtain ⟨u1, r, e2, h1, u2, r', e3, h2, e4⟩ := r1
    subst e2 e3
    have e5 : r' = [] := e4
    subst e5
    exact ⟨u1, u2, rfl, k φ1 _ H1 g1 (((rs.step g1 c1).put h1).put h2)⟩
  · exact k.elim
theorem sj_if {c : Expr} {a b : List Stmt} {t : BF} {g h : SF} (hc : PT X c (tT X.K t)) (ha : PSs X a (tS X.K g)) (hb : PSs X b (tS X.K h)) : PS X (.If c a b pos) (tS X.K (sIf t g h)) := PS.to (ps_if hc ha hb) fun D σ H ⟨φ, ρ, μ, rs, k⟩ => by
  unfold sIf at k
  cases e1 : t ρ μ with
  | none => rw [e1] at k; exact k.elim
  | some r =>
    obtain ⟨d, μ1⟩ := r
    rw [e1] at k
    refine ⟨φ, ρ, μ, d, μ1, rs, e1, fun φ1 H1 g1 c1 => ?_⟩
    cases d with
    | true =>
      refine L2.iteT ?_
      exact ⟨φ1, ρ, μ1, rs.step g1 c1, SPost.grow g1 k⟩
    | false =>
      refine L2.iteF ?_
      exact ⟨φ1, ρ, μ1, rs.step g1 c1, SPost.grow g1 k⟩
end
end VL
end
section
set_option Elab.async false
set_option linter.all false
set_option maxRecDepth 100000
namespace VL
open PySem PySem.Spec PyProof.Rows L2
variable [LawTabs]
section
variable {K : PySem.W.Frag} {φ φ' : Ph} {H H' : Hp} {μ : Mu}
/-- the changed list of number n is written -/
theorem cell_write (c : Cells K φ H μ) {n : Nat} {a : Addr} {ds : List PyData} {xs : List V} (ha : φ.2[n]? = some a) (hs : DaAll K φ.av H ds xs) : Grow φ φ H (upd H a (.lst xs)) ∧ Cells K φ (upd H a (.lst xs)) (μ.set n ds) := by
  have hn : n < μ.length := by rw [← c.len]; exact (List.getElem?_eq_some_iff.mp ha).1
  obtain ⟨ys, hy, _⟩ := c.at_ n a μ[n] ha (by simp [hn])
  have g : Grow φ φ H (upd H a (.lst xs)) := by
    refine ⟨⟨[], by simp, by simp⟩, ⟨[], by simp, by simp⟩, fun b o h hb _ => ?_, fun b h => ?_⟩
    · by_cases e : b = a
      · subst e
        rw [hy] at h; cases h
        exact absurd rfl (hb (List.mem_of_getElem? ha) ys)
      · rw [upd_ne e]; exact h
    · by_cases e : b = a
      · subst e; rw [upd_same] at h; cases h
      · rw [upd_ne e] at h; exact h
  refine ⟨g, c.nd, by simp [c.len], fun m b es h1 h2 => ?_, fun b hb z => c.tr b hb (g.live b z), tabs_wr c.tb hy trivial⟩
  by_cases e : m = n
  · subst e
    rw [ha] at h1; cases h1
    rw [List.getElem?_set_self hn] at h2; cases h2
    exact ⟨xs, upd_same, DaAll.step g _ _ hs⟩
  · rw [List.getElem?_set_ne (Ne.symm e)] at h2
    obtain ⟨zs, h3, h4⟩ := c.at_ m b es h1 h2
    have nb : b ≠ a := fun z => by
      subst z
      have h5 := List.getElem?_eq_some_iff.mp h1
      have h6 := List.getElem?_eq_some_iff.mp ha
      exact e ((List.getElem_inj c.nd).mp (h5.2.trans h6.2.symm))
    exact ⟨zs, by rw [upd_ne nb]; exact h3, DaAll.step g _ _ h4⟩
end
/-! ### o[i] = e of a changed list -/
@[simp] def sSubS (fe fo fi : EF) (ρ : Rho) (μ : Mu) : Option SR := match fe ρ μ with
  | some (.d p, μ1) => (match fo ρ μ1 with
    | some (.loc n, μ2) => (match fi ρ μ2 with
      | some (.d (.int k), μ3) => (match μ3[n]? with
        | some ds => (ixN ds.length k).map fun j => .nx ρ (μ3.set n (ds.set j p))
        | none => none)
      | _ => none)
    | _ => none)
  | _ => none
section
variable {X : Cx} {pos : Pos}
theorem sj_sub {o i e : Expr} {fe fo fi : EF} {p2 : Pos} (he : PE X e (tE X.K fe)) (ho : PE X o (tE X.K fo)) (hi : PE X i (tE X.K fi)) (ha : ∀ v, assign (.Subscript o i p2) X.env v = (do
      let ov ← holding [v] (eval o X.env)
      let iv ← holding [v, ov] (eval i X.env)
      standAt p2
      holding [v, ov, iv] (setItem ov iv v)
      release [v, ov, iv] []) := by intro _; rfl) (hs : swapsWithSole [.Subscript o i p2] e pos.line X.env = pure false := by rfl) (hw : swappedStores [.Subscript o i p2] e X.env = pure none := by rfl) (h1 : (assignEach [.Subscript o i p2] X.env).map (·.2) = [assign (.Subscript o i p2) X.env] := by rfl) :
    PS X (.Assign [.Subscript o i p2] e pos) (tS X.K (sSubS fe fo fi)) := PS.to (ps_asg he (pg_sub ho hi set_list ha) hs hw h1) fun D σ H ⟨φ, ρ, μ, rs, k⟩ => by
  unfold sSubS at k
  split at k
  · rename_i p μ1 e1
    refine ⟨φ, ρ, μ, _, μ1, rs, e1, fun φ1 v1 H1 g1 c1 r1 => ?_⟩
    have rs1 := rs.step g1 c1
    split at k
    · rename_i n μ2 e2
      refine ⟨φ1, ρ, μ1, _, μ2, rs1, e2, fun φ2 v2 H2 g2 c2 r2 => ?_⟩
      have rs2 := rs1.step g2 c2
      split at k
      · rename_i kk μ3 e3
        refine ⟨φ2, ρ, μ2, _, μ3, rs2, e3, fun φ3 v3 H3 g3 c3 r3 => ?_⟩
        split at k
        · rename_i ds e4
          cases e5 : ixN ds.length kk with
          | none => rw [e5] at k; exact k.elim
          | some j =>
            rw [e5] at k
            obtain ⟨a, h1, h2⟩ := RV.step g3.w _ _ r2
            obtain ⟨xs, h3, h4⟩ := c3.at_ n a ds h1 e4
            have hp := Da.step (g2.trans g3).w p v1 r1
            refine ⟨a, xs, kk, j, h2, r3, h3, by rw [← h4.len]; exact e5, ?_⟩
            obtain ⟨g4, c4⟩ := cell_write c3 h1 (DaAll.set hp j h4)
            exact k φ3 σ _ (((g1.trans g2).trans g3).trans g4) ((rs2.step g3 c3).step g4 c4)
        · exact k.elim
      · exact k.elim
    · exact k.elim
  · exact k.elim
/-! ### x.append(e) -/
@[simp] def sApp (fo fe : EF) (ρ : Rho) (μ : Mu) : Option SR := match fo ρ μ with
  | some (.loc n, μ1) => (match fe ρ μ1 with
    | some (.d p, μ2) => (match μ2[n]? with
      | some ds => if ds.length < 1000000 then some (.nx ρ (μ2.set n (ds ++ [p]))) else none
      | none => none)
    | _ => none)
  | _ => none
theorem sj_app {o e : Expr} {fo fe : EF} {apos cpos : Pos} (ho : PE X o (tE X.K fo)) (he : PE X e (tE X.K fe)) (hbase : attributeBase o "append" X.env (eval o X.env) = eval o X.env := by rfl)
    (hfew : ((backTo cpos (starEach [e] X.env)).all (fun x => !x.1) && (backToKw cpos (keywordEach [] X.env)).all (fun x => x.1.isSome) && decide (([e] : List Expr).length + ([] : List Keyword).length + (if ([] : List Keyword).isEmpty then 0 else 1) < 30)) = true := by rfl)
    (hline : (apos.endLine == cpos.line) = true := by rfl) (hs : starEach [e] X.env = (false, eval e X.env) :: starEach [] X.env := by rfl) (hplain : (backTo cpos (starEach [] X.env)).any (·.1) = false := by rfl)
    (hsw : swapsWith (.Call (.Attribute o "append" apos) [e] [] cpos) none pos.line X.env = pure false := by rfl) : PS X (.Expr (.Call (.Attribute o "append" apos) [e] [] cpos) pos) (tS X.K (sApp fo fe)) :=
  PS.to (ps_expr (pe_bm PySem.F.plainAttrs_list PySem.F.slot_list_append PySem.F.type_list_append mt_append ho (aj_cons he aj_nil hs) hbase hfew hline hs hplain) hsw) fun D σ H ⟨φ, ρ, μ, rs, k⟩ => by
  unfold sApp at k
  split at k
  · rename_i n μ1 e1
    refine ⟨φ, ρ, μ, _, μ1, rs, e1, fun φ1 v1 H1 g1 c1 r1 => ?_⟩
    have rs1 := rs.step g1 c1
    obtain ⟨a, h1, h2⟩ := id r1
    obtain ⟨xs, hx⟩ := c1.mem (List.mem_of_getElem? h1)
    subst h2
    refine ⟨.inl ⟨rfl, xs, SqL.of hx⟩, ?_⟩
    split at k
    · rename_i p μ2 e2
      refine ⟨φ1, ρ, μ1, [.d p], μ2, rs1, by unfold aCons aNil; rw [e2]; rfl, fun φ2 vs H2 g2 c2 r2 => ?_⟩
      obtain ⟨v, r, ev, h3, h4⟩ := r2
      have h5 : r = [] := h4
      subst ev h5
      split at k
      · rename_i ds e4
        split at k
        · rename_i hl
          obtain ⟨b, h6, h7⟩ := RV.step g2.w _ _ r1
          cases h7
          obtain ⟨ys, h8, h9⟩ := c2.at_ n a ds h6 e4
          refine ⟨a, ys, v, rfl, rfl, h8, by rw [← h9.len]; exact size_lt (Nat.le_of_lt hl), ?_⟩
          obtain ⟨g4, c4⟩ := cell_write c2 h6 (DaAll.append h9 (show DaAll X.K φ2.av H2 [p] [v] from ⟨v, [], rfl, h3, rfl⟩))
          exact k φ2 σ _ ((g1.trans g2).trans g4) ((rs1.step g2 c2).step g4 c4)
        · exact k.elim
      · exact k.elim
    · exact k.elim
  · exact k.elim
/-! ### x += e -/
@[simp] def sAug (i : Nat) (g : Int → Int → Int) (f : EF) (ρ : Rho) (μ : Mu) : Option SR := match ρ[i]? with
  | some (some (.d (.int a))) => (match f ρ μ with
    | some (.d (.int b), μ1) => some (.nx (ρ.set i (some (.d (.int (g a b))))) μ1)
    | _ => none)
  | _ => none
theorem sj_aug {op : Operator} {g : Int → Int → Int} {i : Nat} {x : Str} {e : Expr} {f : EF} {pos' : Pos} (ho : PIp X op (ipI g)) (hN : X.N.Nodup) (he : PE X e (tE X.K f)) (hi : X.N[i]? = some x := by rfl) (hx : Loc X.env.scope x := by first | exact Or.inl rfl | exact Or.inr rfl)
    (hf : X.fn x = true ∨ X.env.scope.names.lookup x = some .local := by first | exact .inl rfl | exact .inr rfl) : PS X (.AugAssign (.Name x pos') op e pos) (tS X.K (sAug i g f)) := PS.to (ps_aug hN hi hx he ho hf) fun D σ H ⟨φ, ρ, μ, rs, k⟩ => by
  unfold sAug at k
  split at k
  · rename_i a ea
    split at k
    · rename_i b μ1 e1
      obtain ⟨v, h1, h2⟩ := rs.at_ i _ ea
      refine ⟨v, h1, φ, ρ, μ, _, μ1, rs, e1, fun φ1 v1 H1 g1 c1 r1 => ?_⟩
      exact ⟨a, b, h2, r1, k φ1 _ H1 g1 ((rs.step g1 c1).put rfl)⟩
    · exact k.elim
  · exact k.elim
/-! ### new changed lists -/
theorem new_cell {K : PySem.W.Frag} {φ : Ph} {H : Hp} {μ : Mu} {ps : List PyData} {vs : List V} {Q : VK} (c : Cells K φ H μ) (hs : DaAll K φ.av H ps vs) (k : Post K φ H (μ ++ [ps]) (.loc μ.length) Q) : ∀ p, H p = none → Q (.ref p) (upd H p (.lst vs)) := fun p hp =>
  k (φ.1, φ.2 ++ [p]) _ _ (Grow.cell hp) (c.cell hp hs) ⟨p, by
    show (φ.2 ++ [p])[μ.length]? = some p
    rw [← c.len, List.getElem?_append_right (Nat.le_refl _), Nat.sub_self]; rfl, rfl⟩
@[simp] def eLstC (f : AF) (ρ : Rho) (μ : Mu) : Option (Vw × Mu) := match f ρ μ with
  | some (ws, μ1) => (match allD ws with
    | some ps => if ps.length ≤ 1000000 then some (.loc μ1.length, μ1 ++ [ps]) else none
    | none => none)
  | none => none
theorem ej_lstC {es : List Expr} {f : AF} (h : PA X es (tA X.K f)) : PE X (.List es pos) (tE X.K (eLstC f)) := PE.to (pe_lst h) fun σ H Q ⟨φ, ρ, μ, w, μ', rs, e, k⟩ => by
  unfold eLstC at e
  split at e
  · rename_i ws μ1 e1
    split at e
    · rename_i ps e2
      split at e
      · rename_i hl
        cases e
        refine ⟨φ, ρ, μ, ws, _, rs, e1, fun φ1 vs H1 g1 c1 r1 => ?_⟩
        have hd := allD_da e2 r1
        refine ⟨by rw [← hd.len]; exact size_ok hl, ?_⟩
        exact new_cell c1 hd fun φ2 v2 H2 g2 c2 r2 => k φ2 v2 H2 (g1.trans g2) c2 r2
      · cases e
    · cases e
  · cases e
end
/-! ### what is walked -/
abbrev IF := Rho → Mu → Option (List PyData × Option Nat × Mu)
def Wk (K : PySem.W.Frag) (φ : Ph) (H : Hp) (ds : List PyData) (src : Option Nat) (J : It) : Prop := ∀ (φ' : Ph) (H' : Hp) (μ' : Mu), GrowW φ φ' H H' → Cells K φ' H' μ' → (∀ n, src = some n → μ'[n]? = some ds) → ∀ i : Nat,
  (∀ d, ds[i]? = some d → J.go i H' ∧ ∀ x H'', J.yld i H' x H'' → Grow φ' φ' H' H'' ∧ Cells K φ' H'' μ' ∧ Da K φ'.av H'' d x) ∧ (ds.length ≤ i → J.stop i H')
def tI (K : PySem.W.Frag) (fi : IF) : TI := fun σ H R => ∃ φ ρ μ ds src μ', RS K φ σ H ρ μ ∧ fi ρ μ = some (ds, src, μ') ∧ ∀ φ' J H', Grow φ φ' H H' → Cells K φ' H' μ' → Wk K φ' H' ds src J → R J H'
theorem PI.to {X : Cx} {tg it : Expr} {t u : TI} (h : PI X tg it t) (k : ∀ σ H R, u σ H R → t σ H R) : PI X tg it u := ⟨fun pins s σ H R I q => h.run pins s σ H R I (k σ H R q)⟩
@[simp] def iSeq (f : EF) (ρ : Rho) (μ : Mu) : Option (List PyData × Option Nat × Mu) := match f ρ μ with
  | some (.d (.tuple ds), μ1) => some (ds, none, μ1)
  | some (.d (.list ds), μ1) => some (ds, none, μ1)
  | some (.loc n, μ1) => (μ1[n]?).map fun ds => (ds, some n, μ1)
  | some (.kl ns, μ1) => some (ns.map PyData.int, none, μ1)
  | _ => none
theorem wk_tup {K : PySem.W.Frag} {φ : Ph} {H : Hp} {a : Addr} {ds : List PyData} {xs : List V} (h : SqT K H a xs) (hd : DaAll K φ.av H ds xs) : Wk K φ H ds none (Itt K a) := fun φ' H' μ' g c _ i => by
  have h' := g.sqT h
  have hd' := DaAll.step g ds xs hd
  refine ⟨fun d e => ?_, fun hl => ⟨xs, h', by rw [← hd'.len]; exact hl⟩⟩
  obtain ⟨v, e1, e2⟩ := hd'.get e
  refine ⟨⟨xs, v, h', e1⟩, fun x H'' hy => ?_⟩
  obtain ⟨rfl, hy⟩ := hy
  have := hy xs h'
  rw [e1] at this; cases this
  exact ⟨.refl _ _, c, e2⟩
theorem wk_lst {K : PySem.W.Frag} {φ : Ph} {H : Hp} {a : Addr} {ds : List PyData} {src : Option Nat} (h : ∀ φ' H' μ', GrowW φ φ' H H' → Cells K φ' H' μ' → (∀ n, src = some n → μ'[n]? = some ds) → ∃ xs, SqL K H' a xs ∧ DaAll K φ'.av H' ds xs) : Wk K φ H ds src (Itl K a) := fun φ' H' μ' g c hs i => by
  obtain ⟨xs, h', hd'⟩ := h φ' H' μ' g c hs
  refine ⟨fun d e => ?_, fun hl => ⟨xs, h', by rw [← hd'.len]; exact hl⟩⟩
  obtain ⟨v, e1, e2⟩ := hd'.get e
  refine ⟨⟨xs, v, h', e1⟩, fun x H'' hy => ?_⟩
  obtain ⟨rfl, hy⟩ := hy
  have := hy xs h'
  rw [e1] at this; cases this
  exact ⟨.refl _ _, c, e2⟩
theorem ij_seq {X : Cx} {tg l : Expr} {f : EF} (h : PE X l (tE X.K f)) : PI X tg l (tI X.K (iSeq f)) := ⟨fun pins s σ H R I q => by
  obtain ⟨φ, ρ, μ, ds, src, μ', rs, e, k⟩ := q
  unfold iSeq at e
  split at e
  · rename_i es μ1 e1
    cases e
    refine (pi_tup h).run pins s σ H R I ⟨φ, ρ, μ, _, _, rs, e1, fun φ1 v H1 g1 c1 r1 => ?_⟩
    obtain ⟨a, xs, e2, h1, h2⟩ := r1
    exact ⟨a, e2, ⟨xs, h1⟩, k φ1 _ H1 g1 c1 (wk_tup h1 h2)⟩
  · rename_i es μ1 e1
    cases e
    refine (pi_list h).run pins s σ H R I ⟨φ, ρ, μ, _, _, rs, e1, fun φ1 v H1 g1 c1 r1 => ?_⟩
    obtain ⟨a, xs, e2, hn, h1, h2⟩ := id r1
    refine ⟨a, e2, ⟨xs, SqL.of h1⟩, k φ1 _ H1 g1 c1 (wk_lst fun φ' H' μ' g c _ => ?_)⟩
    obtain ⟨b, ys, e3, _, h3, h4⟩ := Da.step g (.list ds) v r1
    rw [e2] at e3; cases e3
    exact ⟨ys, SqL.of h3, h4⟩
  · rename_i n μ1 e1
    obtain ⟨es, e2, e3⟩ := Option.map_eq_some_iff.mp e
    cases e3
    refine (pi_list h).run pins s σ H R I ⟨φ, ρ, μ, _, _, rs, e1, fun φ1 v H1 g1 c1 r1 => ?_⟩
    obtain ⟨a, h1, h2⟩ := id r1
    obtain ⟨xs, h3, _⟩ := c1.at_ n a ds h1 e2
    refine ⟨a, h2, ⟨xs, SqL.of h3⟩, k φ1 _ H1 g1 c1 (wk_lst fun φ' H' μ2 g c hs => ?_)⟩
    obtain ⟨b, h4, h5⟩ := RV.step g _ _ r1
    rw [h2] at h5; cases h5
    obtain ⟨ys, h6, h7⟩ := c.at_ n a ds h4 (hs n rfl)
    exact ⟨ys, SqL.of h6, h7⟩
  · rename_i ns μ1 e1
    cases e
    refine (pi_list h).run pins s σ H R I ⟨φ, ρ, μ, _, _, rs, e1, fun φ1 v H1 g1 c1 r1 => ?_⟩
    obtain ⟨a, h1, h2⟩ := r1
    refine ⟨a, h1, ⟨_, h2.sq⟩, k φ1 _ H1 g1 c1 (wk_lst fun φ' H' μ' g c _ => ⟨_, (g.kl h2).sq, DaAll.ints ns⟩)⟩
  · cases e⟩
/-- lo, lo + 1, .. -/
def rngD (lo : Int) (n : Nat) : List PyData := (List.range n).map fun (i : Nat) => PyData.int (lo + (i : Int))
theorem rngD_get {lo : Int} {n i : Nat} {d : PyData} (e : (rngD lo n)[i]? = some d) : i < n ∧ d = .int (lo + (i : Int)) := by
  unfold rngD at e
  rw [List.getElem?_map] at e
  by_cases h : i < n
  · rw [List.getElem?_range h] at e
    cases e
    exact ⟨h, rfl⟩
  · rw [List.getElem?_eq_none (by simpa using h)] at e; cases e
theorem rngD_len {lo : Int} {n : Nat} : (rngD lo n).length = n := by simp [rngD]
theorem wk_rng {K : PySem.W.Frag} {φ : Ph} {H : Hp} {lo : Int} {n : Nat} : Wk K φ H (rngD lo n) none (Itr lo n) := fun φ' H' μ' g c _ i => by
  refine ⟨fun d e => ?_, fun hl => by rw [rngD_len] at hl; exact hl⟩
  obtain ⟨h1, rfl⟩ := rngD_get e
  refine ⟨h1, fun x H'' hy => ?_⟩
  obtain ⟨rfl, rfl⟩ := hy
  exact ⟨.refl _ _, c, rfl⟩
def rgOk (lo hi : Int) : Prop := -(2 ^ 62) ≤ lo ∧ lo < 2 ^ 62 ∧ -(2 ^ 62) ≤ hi ∧ hi < 2 ^ 62
theorem rgOk_of {lo hi : Int} (h1 : -1000000000000 ≤ lo) (h2 : lo ≤ 1000000000000) (h3 : -1000000000000 ≤ hi) (h4 : hi ≤ 1000000000000) : rgOk lo hi := ⟨by omega, by omega, by omega, by omega⟩
theorem rgOk_0 {n : Nat} (h : n ≤ 1000000) : rgOk 0 n := ⟨by omega, by omega, by omega, by omega⟩
open Classical in
@[simp] noncomputable def iRg1 (f : EF) (ρ : Rho) (μ : Mu) : Option (List PyData × Option Nat × Mu) := match f ρ μ with
  | some (.d (.int j), μ1) => if rgOk 0 j then some (rngD 0 j.toNat, none, μ1) else none
  | _ => none
open Classical in
@[simp] noncomputable def iRg2 (f g : EF) (ρ : Rho) (μ : Mu) : Option (List PyData × Option Nat × Mu) := match f ρ μ with
  | some (.d (.int i), μ1) => (match g ρ μ1 with
    | some (.d (.int j), μ2) => if rgOk i j then some (rngD i (j - i).toNat, none, μ2) else none
    | _ => none)
  | _ => none
theorem ij_rg1 {X : Cx} {tg a : Expr} {f : EF} {p pos : Pos} (hm : X.mg "range" = none) (ha : PE X a (tE X.K f)) (hg : Gl X "range" := by rfl) (hs : starEach [a] X.env = [(false, eval a X.env)] := by rfl) : PI X tg (.Call (.Name "range" p) [a] [] pos) (tI X.K (iRg1 f)) :=
  PI.to (pi_range1 hg hm (aj_cons ha aj_nil hs) hs) fun σ H R ⟨φ, ρ, μ, ds, src, μ', rs, e, k⟩ => by
  unfold iRg1 at e
  split at e
  · rename_i j μ1 e1
    split at e
    · rename_i hj
      cases e
      refine ⟨φ, ρ, μ, [.d (.int j)], _, rs, by unfold aCons aNil; rw [e1]; rfl, fun φ1 vs H1 g1 c1 r1 => ?_⟩
      obtain ⟨v, r, ev, h3, h4⟩ := r1
      have h5 : r = [] := h4
      have h6 : v = .int j := h3
      subst ev h5 h6
      exact ⟨j, rfl, hj.2.2.1, hj.2.2.2, k φ1 _ H1 g1 c1 wk_rng⟩
    · cases e
  · cases e
theorem ij_rg2 {X : Cx} {tg a b : Expr} {f g : EF} {p pos : Pos} (hm : X.mg "range" = none) (ha : PE X a (tE X.K f)) (hb : PE X b (tE X.K g)) (hg : Gl X "range" := by rfl) (hs : starEach [a, b] X.env = [(false, eval a X.env), (false, eval b X.env)] := by rfl)
    (hs2 : starEach [b] X.env = [(false, eval b X.env)] := by rfl) : PI X tg (.Call (.Name "range" p) [a, b] [] pos) (tI X.K (iRg2 f g)) :=
  PI.to (pi_range2 hg hm (aj_cons ha (aj_cons hb aj_nil hs2) (by rw [hs, hs2])) hs hs2) fun σ H R ⟨φ, ρ, μ, ds, src, μ', rs, e, k⟩ => by
  unfold iRg2 at e
  split at e
  · rename_i i μ1 e1
    split at e
    · rename_i j μ2 e2
      split at e
      · rename_i hj
        cases e
        refine ⟨φ, ρ, μ, [.d (.int i), .d (.int j)], _, rs, by simp only [aCons, aNil, e1, e2]; rfl, fun φ1 vs H1 g1 c1 r1 => ?_⟩
        obtain ⟨v, r, ev, h3, v2, r2, ev2, h4, h5⟩ := r1
        have h6 : r2 = [] := h5
        have h7 : v = .int i := h3
        have h8 : v2 = .int j := h4
        subst ev ev2 h6 h7 h8
        exact ⟨i, j, rfl, hj, k φ1 _ H1 g1 c1 wk_rng⟩
      · cases e
    · cases e
  · cases e
/-! ### for -/
def srcOk (src : Option Nat) (all : List PyData) (μ : Mu) : Prop := ∀ n, src = some n → μ[n]? = some all
open Classical in
noncomputable def forM (t : TF) (body : SF) (src : Option Nat) (all : List PyData) : List PyData → Rho → Mu → Option SR
  | [], ρ, μ => if srcOk src all μ then some (.nx ρ μ) else none
  | d :: ds, ρ, μ => if srcOk src all μ then (match t (.d d) ρ with
    | none => none
    | some ρ1 => match body ρ1 μ with
      | some (.nx ρ2 μ2) => forM t body src all ds ρ2 μ2
      | some (.ct ρ2 μ2) => forM t body src all ds ρ2 μ2
      | some (.bk ρ2 μ2) => some (.nx ρ2 μ2)
      | some (.rt w μ2) => some (.rt w μ2)
      | none => none)
    else none
@[simp] noncomputable def sFor (fi : IF) (t : TF) (body : SF) (ρ : Rho) (μ : Mu) : Option SR := match fi ρ μ with
  | some (ds, src, μ1) => forM t body src ds ds ρ μ1
  | none => none
theorem sj_for {X : Cx} {tg iter : Expr} {body : List Stmt} {fi : IF} {t : TF} {vs : List Nat} {g : SF} {pos : Pos} (hp : PassesOwn (model X.prog X.w) X.A X.env X.xe) (hc : X.calm = true) (hi : PI X tg iter (tI X.K fi)) (hg : PG X tg (tG X.K t vs)) (hb : PSs X body (tS X.K g))
    (hs : ∀ x, foldedSetIterable iter X.env x = pure x := by intro _; rfl) : PS X (.For tg iter body [] pos) (tS X.K (sFor fi t g)) := PS.to (ps_for hp hc hi hg hb hs) fun D σ H ⟨φ, ρ, μ, rs, k⟩ => by
  unfold sFor at k
  split at k
  · rename_i ds src μ1 e1
    refine ⟨φ, ρ, μ, ds, src, μ1, rs, e1, fun φ1 J H1 g1 c1 wk => ?_⟩
    refine ⟨fun i m σ' H' => m = ds.length - i ∧ ∃ φ2 ρ2 μ2, Grow φ1 φ2 H1 H' ∧ RS X.K φ2 σ' H' ρ2 μ2 ∧ SPost X.K φ2 H' D (forM t g src ds (ds.drop i) ρ2 μ2), ⟨_, rfl, φ1, ρ, μ1, .refl _ _, rs.step g1 c1, SPost.grow g1 k⟩, ?_⟩
    rintro i m σ2 H2 ⟨rfl, φ2, ρ2, μ2, g2, rs2, k2⟩
    cases hdi : ds.drop i with
    | nil =>
      rw [hdi] at k2
      unfold forM at k2
      split at k2
      · rename_i hsrc
        have hl : ds.length ≤ i := List.drop_eq_nil_iff.mp hdi
        exact .inl ⟨(wk φ2 H2 μ2 g2 rs2.c hsrc i).2 hl, k2 φ2 σ2 H2 (.refl _ _) rs2⟩
      · exact k2.elim
    | cons d r =>
      rw [hdi] at k2
      have hil : i < ds.length := by
        by_cases z : i < ds.length
        · exact z
        · rw [List.drop_eq_nil_iff.mpr (by omega)] at hdi; cases hdi
      have hdg : ds[i]? = some d := by
        have := List.getElem?_drop (xs := ds) (i := i) (j := 0)
        rw [hdi] at this
        simpa using this.symm
      have hdr : ds.drop (i + 1) = r := by
        have : (ds.drop i).drop 1 = ds.drop (i + 1) := by rw [List.drop_drop]
        rw [← this, hdi]; rfl
      unfold forM at k2
      split at k2
      · rename_i hsrc
        obtain ⟨go, hy⟩ := (wk φ2 H2 μ2 g2 rs2.c hsrc i).1 d hdg
        refine .inr ⟨go, fun σ' H' => ∃ φ3 ρ3 μ3, Grow φ1 φ3 H1 H' ∧ RS X.K φ3 σ' H' ρ3 μ3 ∧ SPost X.K φ3 H' D (forM t g src ds (ds.drop (i + 1)) ρ3 μ3), fun σ' H' hN => ⟨ds.length - (i + 1), by omega, rfl, hN⟩, fun x H3 hyl => ?_⟩
        obtain ⟨g3, c3, hx⟩ := hy x H3 hyl
        have rs3 := rs2.step g3 c3
        split at k2
        · exact k2.elim
        · rename_i ρ3 e3
          refine ⟨φ2, ρ2, μ2, .d d, ρ3, rs3, hx, e3, fun σ4 rs4 _ => ⟨φ2, ρ3, μ2, rs4, ?_⟩⟩
          rw [hdr]
          have k3 := SPost.grow g3 k2
          cases eb : g ρ3 μ2 with
          | none => rw [eb] at k3; exact k3
          | some z =>
            rw [eb] at k3
            cases z with
            | nx ρ5 μ5 => exact fun φ5 σ5 H5 g5 r5 => ⟨φ5, ρ5, μ5, (g2.trans g3).trans g5, r5, SPost.grow g5 k3⟩
            | ct ρ5 μ5 => exact fun φ5 σ5 H5 g5 r5 => ⟨φ5, ρ5, μ5, (g2.trans g3).trans g5, r5, SPost.grow g5 k3⟩
            | bk ρ5 μ5 => exact k3
            | rt w μ5 => exact k3
      · exact k2.elim
  · exact k.elim
/-! ### while -/
def whileM (t : BF) (body : SF) : Nat → Rho → Mu → Option SR
  | 0, _, _ => none
  | n + 1, ρ, μ => match t ρ μ with
    | none => none
    | some (false, μ1) => some (.nx ρ μ1)
    | some (true, μ1) => match body ρ μ1 with
      | some (.nx ρ2 μ2) => whileM t body n ρ2 μ2
      | some (.ct ρ2 μ2) => whileM t body n ρ2 μ2
      | some (.bk ρ2 μ2) => some (.nx ρ2 μ2)
      | some (.rt w μ2) => some (.rt w μ2)
      | none => none
/-- enough turns -/
def sWhile (t : BF) (body : SF) (n : Nat) : SF := whileM t body n
theorem sj_while {X : Cx} {c : Expr} {body : List Stmt} {t : BF} {g : SF} {pos : Pos} (n : Nat) (hp : PassesOwn (model X.prog X.w) X.A X.env X.xe) (hc : PT X c (tT X.K t)) (hb : PSs X body (tS X.K g)) : PS X (.While c body [] pos) (tS X.K (sWhile t g n)) := PS.to (ps_while hp hc hb) fun D σ H ⟨φ, ρ, μ, rs, k⟩ => by
  refine ⟨fun m σ' H' => ∃ φ2 ρ2 μ2, RS X.K φ2 σ' H' ρ2 μ2 ∧ SPost X.K φ2 H' D (whileM t g m ρ2 μ2), ⟨n, φ, ρ, μ, rs, k⟩, ?_⟩
  rintro m σ2 H2 ⟨φ2, ρ2, μ2, rs2, k2⟩
  cases m with
  | zero => exact k2.elim
  | succ m =>
    unfold whileM at k2
    cases et : t ρ2 μ2 with
    | none => rw [et] at k2; exact k2.elim
    | some r =>
      obtain ⟨b, μ3⟩ := r
      rw [et] at k2
      refine ⟨φ2, ρ2, μ2, b, μ3, rs2, et, fun φ3 H3 g3 c3 => ?_⟩
      have rs3 := rs2.step g3 c3
      have k3 := SPost.grow g3 k2
      cases b with
      | false => exact L2.iteF (k3 φ3 σ2 H3 (.refl _ _) rs3)
      | true =>
        refine L2.iteT ⟨fun σ' H' => ∃ φ4 ρ4 μ4, RS X.K φ4 σ' H' ρ4 μ4 ∧ SPost X.K φ4 H' D (whileM t g m ρ4 μ4), fun σ' H' hN => ⟨m, by omega, hN⟩, φ3, ρ2, μ3, rs3, ?_⟩
        simp only at k3
        cases eb : g ρ2 μ3 with
        | none => rw [eb] at k3; exact k3
        | some z =>
          rw [eb] at k3
          cases z with
          | nx ρ5 μ5 => exact fun φ5 σ5 H5 g5 r5 => ⟨φ5, ρ5, μ5, r5, SPost.grow g5 k3⟩
          | ct ρ5 μ5 => exact fun φ5 σ5 H5 g5 r5 => ⟨φ5, ρ5, μ5, r5, SPost.grow g5 k3⟩
          | bk ρ5 μ5 => exact k3
          | rt w μ5 => exact k3
end VL
end
section
set_option Elab.async false
set_option linter.all false
set_option maxRecDepth 100000
namespace VL
open PySem PySem.Spec PyProof.Rows L2
variable [LawTabs]
/-! ### comprehensions -/
def wipeR (ρ : Rho) : List Nat → Rho
  | [] => ρ
  | v :: vs => (wipeR ρ vs).set v none
theorem wipeR_len (ρ : Rho) : ∀ vs : List Nat, (wipeR ρ vs).length = ρ.length
  | [] => rfl
  | v :: vs => by unfold wipeR; rw [List.length_set, wipeR_len ρ vs]
theorem wipeR_some {ρ : Rho} {i : Nat} {x : Vw} : ∀ {vs : List Nat}, (wipeR ρ vs)[i]? = some (some x) → ρ[i]? = some (some x) ∧ i ∉ vs
  | [], h => ⟨h, by simp⟩
  | v :: vs, h => by
    unfold wipeR at h
    by_cases e : i = v
    · subst e
      by_cases hl : i < (wipeR ρ vs).length
      · rw [List.getElem?_set_self hl] at h; cases h
      · rw [List.getElem?_eq_none (by simpa using hl)] at h; cases h
    · rw [List.getElem?_set_ne (Ne.symm e)] at h
      obtain ⟨h1, h2⟩ := wipeR_some h
      exact ⟨h1, by simp [e, h2]⟩
theorem RS.wipe {K : PySem.W.Frag} {φ : Ph} {σ : L2.St} {H : Hp} {ρ : Rho} {μ : Mu} (r : RS K φ σ H ρ μ) (vs : List Nat) : RS K φ (L2.wipe σ vs) H (wipeR ρ vs) μ := by
  refine ⟨r.c, by rw [wipe_length, wipeR_len, r.len], fun i w h => ?_⟩
  obtain ⟨h1, h2⟩ := wipeR_some h
  obtain ⟨v, h3, h4⟩ := r.at_ i w h1
  exact ⟨v, by rw [wipe_out h2]; exact h3, h4⟩
@[simp] def bYes (_ : Rho) (μ : Mu) : Option (Bool × Mu) := some (true, μ)
theorem tsj_nil {X : Cx} : PTs X [] (tT X.K bYes) := ⟨fun pins s σ H Q I h => pts_nil.run pins s σ H Q I (by
  obtain ⟨φ, ρ, μ, b, μ', rs, e, k⟩ := h
  cases e
  exact k φ H (.refl _ _) rs.c)⟩
theorem tsj_one {X : Cx} {c : Expr} {f : BF} (h : PT X c (tT X.K f)) : PTs X [c] (tT X.K f) := pts_one h
open Classical in
noncomputable def lcM (t : TF) (tt : BF) (fe : EF) (src : Option Nat) (all : List PyData) : List PyData → Rho → Mu → Option (List PyData × Mu)
  | [], ρ, μ => if srcOk src all μ then some ([], μ) else none
  | d :: ds, ρ, μ => if srcOk src all μ then (match t (.d d) ρ with
    | none => none
    | some ρ1 => match tt ρ1 μ with
      | some (true, μ1) => (match fe ρ1 μ1 with
        | some (.d p, μ2) => (lcM t tt fe src all ds ρ μ2).map fun r => (p :: r.1, r.2)
        | _ => none)
      | some (false, μ1) => lcM t tt fe src all ds ρ μ1
      | none => none)
    else none
@[simp] noncomputable def eLcC (fi : IF) (t : TF) (tt : BF) (fe : EF) (vs : List Nat) (ρ : Rho) (μ : Mu) : Option (Vw × Mu) := match fi ρ μ with
  | some (ds, src, μ1) => (match lcM t tt fe src ds ds (wipeR ρ vs) μ1 with
    | some (ps, μ2) => if ps.length ≤ 1000000 then some (.loc μ2.length, μ2 ++ [ps]) else none
    | none => none)
  | none => none
@[simp] noncomputable def eLc (fi : IF) (t : TF) (tt : BF) (fe : EF) (vs : List Nat) (ρ : Rho) (μ : Mu) : Option (Vw × Mu) := match fi ρ μ with
  | some (ds, src, μ1) => (match lcM t tt fe src ds ds (wipeR ρ vs) μ1 with
    | some (ps, μ2) => if ps.length ≤ 1000000 then some (.d (.list ps), μ2) else none
    | none => none)
  | none => none
/-- what holds between two turns: D the list that is made -/
structure LcAt (K : PySem.W.Frag) (φ φ2 : Ph) (H H2 : Hp) (D : Addr) (μ2 : Mu) (acc : List PyData) : Prop where
  g : Grow φ φ2 H H2
  c : Cells K φ2 H2 μ2
  mem : D ∈ φ2.1
  nmem : D ∉ φ2.2
  at_ : ∃ xs, H2 D = some (.lst xs) ∧ DaAll K φ2.av H2 acc xs
section
variable {K : PySem.W.Frag} {φ φ2 φ3 : Ph} {H H2 H3 : Hp} {D : Addr} {μ μ2 μ3 : Mu} {acc : List PyData}
theorem LcAt.start (c : Cells K φ H μ) (hD : H D = none) : LcAt K φ (φ.1 ++ [D], φ.2) H (upd H D (.lst [])) D μ [] := by
  have g : Grow φ (φ.1 ++ [D], φ.2) H (upd H D (.lst [])) := by
    obtain ⟨_, p, e, l⟩ := Grow.laid (φ := φ) (o := .lst []) hD
    exact ⟨⟨[D], rfl, fun a ha => by rw [List.mem_singleton.mp ha]; exact hD⟩, p, e, l⟩
  have hn := c.notin hD
  refine ⟨g, ⟨c.nd, c.len, fun n a ds h1 h2 => ?_, fun a ha => ?_, tabs_laid c.tb hD⟩, by simp, fun z => hn (List.mem_append_right _ z), ⟨[], upd_same, rfl⟩⟩
  · obtain ⟨xs, h, hs⟩ := c.at_ n a ds h1 h2
    exact ⟨xs, by rw [upd_ne (ne_of_none h hD)]; exact h, DaAll.step g ds xs hs⟩
  · rcases List.mem_append.mp ha with ha | ha
    · intro z; exact c.tr a ha (g.live a z)
    · rw [List.mem_singleton.mp ha, upd_same]; simp
theorem LcAt.step (l : LcAt K φ φ2 H H2 D μ2 acc) (g : Grow φ2 φ3 H2 H3) (c : Cells K φ3 H3 μ3) : LcAt K φ φ3 H H3 D μ3 acc := by
  obtain ⟨xs, h, hs⟩ := l.at_
  refine ⟨l.g.trans g, c, ?_, g.out2 (by rw [h]; simp) l.nmem, ⟨xs, g.ext D _ h (fun z => absurd z l.nmem) (fun ps z => by cases z), DaAll.step g _ _ hs⟩⟩
  obtain ⟨χ, e, _⟩ := g.fst
  rw [e]; exact List.mem_append_left _ l.mem
theorem LcAt.add (l : LcAt K φ φ2 H H2 D μ2 acc) (hD : H D = none) {p : PyData} {y : V} (hp : Da K φ2.av H2 p y) : ∃ xs, H2 D = some (.lst xs) ∧ xs.length = acc.length ∧ LcAt K φ φ2 H (upd H2 D (.lst (xs ++ [y]))) D μ2 (acc ++ [p]) := by
  obtain ⟨xs, h, hs⟩ := l.at_
  have ha : D ∈ φ2.av := List.mem_append_left _ l.mem
  refine ⟨xs, h, hs.len.symm, ⟨⟨l.g.fst, l.g.pre, fun a o e hn nt => ?_, fun a z => ?_⟩, l.c.wr l.mem l.nmem h trivial, l.mem, l.nmem, ⟨_, upd_same, DaAll.append (DaAll.wr ha h trivial _ _ hs) (show DaAll K φ2.av _ [p] [y] from ⟨y, [], rfl, Da.wr ha h trivial _ _ hp, rfl⟩)⟩⟩⟩
  · rw [upd_ne (ne_of_none e hD)]; exact l.g.ext a o e hn nt
  · by_cases e : a = D
    · rw [e]; exact hD
    · rw [upd_ne e] at z; exact l.g.live a z
theorem LcAt.endC (l : LcAt K φ φ2 H H2 D μ2 acc) (cH : Cells K φ H μ) (hD : H D = none) {Q : VK} (k : Post K φ H (μ2 ++ [acc]) (.loc μ2.length) Q) : Q (.ref D) H2 := by
  obtain ⟨xs, h, hs⟩ := l.at_
  have sub : ∀ a ∈ Ph.av (φ.1, φ2.2 ++ [D]), a ∈ φ2.av := fun a ha => by
    rcases List.mem_append.mp ha with ha | ha
    · obtain ⟨χ, e, _⟩ := l.g.fst
      exact List.mem_append_left _ (by rw [e]; exact List.mem_append_left _ ha)
    · rcases List.mem_append.mp ha with ha | ha
      · exact List.mem_append_right _ ha
      · rw [List.mem_singleton.mp ha]; exact List.mem_append_left _ l.mem
  refine k (φ.1, φ2.2 ++ [D]) _ H2 ⟨⟨[], by simp, by simp⟩, ?_, l.g.ext, l.g.live⟩ ⟨?_, by simp [l.c.len], fun n a es h1 h2 => ?_, fun a ha z => cH.tr a ha (l.g.live a z), l.c.tb⟩ ⟨D, by
    show (φ2.2 ++ [D])[μ2.length]? = some D
    rw [← l.c.len, List.getElem?_append_right (Nat.le_refl _), Nat.sub_self]; rfl, rfl⟩
  · obtain ⟨ψ, e, hψ⟩ := l.g.pre
    exact ⟨ψ ++ [D], by show φ2.2 ++ [D] = _; rw [e, List.append_assoc], fun a ha => (List.mem_append.mp ha).elim (hψ a) fun z => by rw [List.mem_singleton.mp z]; exact hD⟩
  · show (φ2.2 ++ [D]).Nodup
    rw [List.nodup_append]
    exact ⟨l.c.nd, by simp, fun a ha b hb => by rw [List.mem_singleton.mp hb]; intro z; subst z; exact l.nmem ha⟩
  · by_cases hn : n < φ2.2.length
    · have h1' : φ2.2[n]? = some a := by
        have : (φ2.2 ++ [D])[n]? = some a := h1
        rwa [List.getElem?_append_left hn] at this
      rw [List.getElem?_append_left (by rw [← l.c.len]; exact hn)] at h2
      obtain ⟨ys, h3, h4⟩ := l.c.at_ n a es h1' h2
      exact ⟨ys, h3, DaAll.weak sub es ys h4⟩
    · have hl : n < (φ2.2 ++ [D]).length := (List.getElem?_eq_some_iff.mp h1).1
      have e : n = φ2.2.length := by
        rw [List.length_append, List.length_singleton] at hl; omega
      subst e
      have h1' : (φ2.2 ++ [D])[φ2.2.length]? = some a := h1
      rw [List.getElem?_append_right (Nat.le_refl _), Nat.sub_self] at h1'
      rw [List.getElem?_append_right (by rw [l.c.len]; exact Nat.le_refl _), l.c.len, Nat.sub_self] at h2
      cases h1'
      cases h2
      exact ⟨xs, h, DaAll.weak sub _ xs hs⟩
theorem LcAt.endD (l : LcAt K φ φ2 H H2 D μ2 acc) (cH : Cells K φ H μ) (hD : H D = none) {Q : VK} (k : Post K φ H μ2 (.d (.list acc)) Q) : Q (.ref D) H2 := by
  obtain ⟨xs, h, hs⟩ := l.at_
  have sub : ∀ a ∈ Ph.av (φ.1, φ2.2), a ∈ φ2.av := fun a ha => by
    rcases List.mem_append.mp ha with ha | ha
    · obtain ⟨χ, e, _⟩ := l.g.fst
      exact List.mem_append_left _ (by rw [e]; exact List.mem_append_left _ ha)
    · exact List.mem_append_right _ ha
  refine k (φ.1, φ2.2) _ H2 ⟨⟨[], by simp, by simp⟩, l.g.pre, l.g.ext, l.g.live⟩ ⟨l.c.nd, l.c.len, fun n a es h1 h2 => ?_, fun a ha z => cH.tr a ha (l.g.live a z), l.c.tb⟩ ⟨D, xs, rfl, fun hm => ?_, h, DaAll.weak sub _ xs hs⟩
  · obtain ⟨ys, h3, h4⟩ := l.c.at_ n a es h1 h2
    exact ⟨ys, h3, DaAll.weak sub es ys h4⟩
  · rcases List.mem_append.mp hm with hm | hm
    · exact cH.tr D hm hD
    · exact l.nmem hm
end
theorem wipe_same {τ : L2.St} : ∀ {us : List Nat}, (∀ i ∈ us, ∀ z, τ[i]? ≠ some (some z)) → L2.wipe τ us = τ
  | [], _ => rfl
  | u :: us, h => by
    unfold L2.wipe
    rw [wipe_same fun i hi => h i (List.mem_cons_of_mem _ hi)]
    apply List.ext_getElem?
    intro j
    by_cases ej : j = u
    · subst ej
      by_cases hl : j < τ.length
      · rw [List.getElem?_set_self hl]
        cases q : τ[j]? with
        | none => rw [List.getElem?_eq_none_iff] at q; omega
        | some z =>
          cases z with
          | none => rfl
          | some z => exact absurd q (h j (by simp) z)
      · rw [List.getElem?_eq_none (by simp; omega), List.getElem?_eq_none (by omega)]
    · rw [List.getElem?_set_ne (Ne.symm ej)]
/-- the loop of a comprehension -/
theorem lc_loop {K : PySem.W.Frag} {t : TF} {tt : BF} {fe : EF} {src : Option Nat} {ds : List PyData} {ws vs : List Nat} {J : It} {φ : Ph} {H : Hp} {σ : L2.St} {ρ : Rho} {μ μ9 : Mu} {ps : List PyData} {D : Addr} {Qd : Hp → Prop} (rs : RS K φ σ H ρ μ) (wk : Wk K φ H ds src J) (hD : H D = none)
    (hvs : ∀ i ∈ ws, i ∈ vs) (e : lcM t tt fe src ds ds (wipeR ρ vs) μ = some (ps, μ9)) (hlen : ps.length ≤ 1000000) (hd : ∀ φ2 H2, LcAt K φ φ2 H H2 D μ9 ps → Qd H2) :
    ∃ W : Nat → Nat → Hp → Prop, (∃ m, W 0 m (upd H D (.lst []))) ∧ ∀ i m H, W i m H →
      (J.stop i H ∧ Qd H) ∨ (J.go i H ∧ ∃ Nx : Hp → Prop, (∀ H', Nx H' → ∃ m', m' < m ∧ W (i + 1) m' H') ∧ ∀ x H', J.yld i H x H' → tG K t ws x (L2.wipe σ vs) H' fun σ2 H2 => L2.wipe σ2 vs = L2.wipe σ vs ∧ tT K tt σ2 H2 fun b H3 =>
        if b = true then tE K fe σ2 H3 fun y H4 => ∃ acc, H4 D = some (.lst acc) ∧ acc.length < sizeLine ∧ Nx (upd H4 D (.lst (acc ++ [y]))) else Nx H3) := by
  refine ⟨fun i m H' => m = ds.length - i ∧ ∃ φ2 μ2 acc rest, LcAt K φ φ2 H H' D μ2 acc ∧ lcM t tt fe src ds (ds.drop i) (wipeR ρ vs) μ2 = some (rest, μ9) ∧ acc ++ rest = ps, ⟨_, rfl, _, μ, [], ps, LcAt.start rs.c hD, e, rfl⟩, ?_⟩
  rintro i m H2 ⟨rfl, φ2, μ2, acc, rest, l, e2, eps⟩
  cases hdi : ds.drop i with
  | nil =>
    rw [hdi] at e2
    unfold lcM at e2
    split at e2
    · rename_i hsrc
      cases e2
      rw [List.append_nil] at eps
      subst eps
      exact .inl ⟨(wk φ2 H2 _ l.g l.c hsrc i).2 (List.drop_eq_nil_iff.mp hdi), hd φ2 H2 l⟩
    · cases e2
  | cons d r =>
    rw [hdi] at e2
    have hil : i < ds.length := by
      by_cases z : i < ds.length
      · exact z
      · rw [List.drop_eq_nil_iff.mpr (by omega)] at hdi; cases hdi
    have hdg : ds[i]? = some d := by
      have := List.getElem?_drop (xs := ds) (i := i) (j := 0)
      rw [hdi] at this
      simpa using this.symm
    have hdr : ds.drop (i + 1) = r := by
      have : (ds.drop i).drop 1 = ds.drop (i + 1) := by rw [List.drop_drop]
      rw [← this, hdi]; rfl
    unfold lcM at e2
    split at e2
    · rename_i hsrc
      obtain ⟨go, hy⟩ := (wk φ2 H2 μ2 l.g l.c hsrc i).1 d hdg
      refine .inr ⟨go, fun H' => ∃ φ2 μ2 acc rest, LcAt K φ φ2 H H' D μ2 acc ∧ lcM t tt fe src ds (ds.drop (i + 1)) (wipeR ρ vs) μ2 = some (rest, μ9) ∧ acc ++ rest = ps, fun H' hN => ⟨ds.length - (i + 1), by omega, rfl, hN⟩, fun x H3 hyl => ?_⟩
      obtain ⟨g3, c3, hx⟩ := hy x H3 hyl
      have l3 := l.step g3 c3
      split at e2
      · cases e2
      · rename_i ρ3 e3
        have rs3 : RS K φ2 (L2.wipe σ vs) H3 (wipeR ρ vs) μ2 := (rs.wipe vs).step l3.g c3
        refine ⟨φ2, _, μ2, .d d, ρ3, rs3, hx, e3, fun σ4 rs4 w4 => ⟨?_, ?_⟩⟩
        · have := w4 vs hvs
          rw [this]
          exact wipe_same fun i hi z hz => (wipe_some hz).2 hi
        · split at e2
          · rename_i μ4 e4
            refine ⟨φ2, ρ3, μ2, true, μ4, rs4, e4, fun φ5 H5 g5 c5 => L2.iteT ?_⟩
            have l5 := l3.step g5 c5
            split at e2
            · rename_i p μ6 e6
              obtain ⟨⟨rest', μ7⟩, e7, e8⟩ := Option.map_eq_some_iff.mp e2
              cases e8
              refine ⟨φ5, ρ3, μ4, .d p, μ6, rs4.step g5 c5, e6, fun φ8 y H8 g8 c8 r8 => ?_⟩
              have l8 := l5.step g8 c8
              obtain ⟨xs, hx1, hx2, l9⟩ := l8.add hD r8
              refine ⟨xs, hx1, ?_, φ8, μ6, acc ++ [p], rest', l9, by rw [hdr]; exact e7, by rw [List.append_assoc]; exact eps⟩
              have : (acc ++ p :: rest').length ≤ 1000000 := by rw [show acc ++ p :: rest' = ps from eps]; exact hlen
              rw [List.length_append, List.length_cons] at this
              exact size_lt (by omega)
            · cases e2
          · rename_i μ4 e4
            refine ⟨φ2, ρ3, μ2, false, μ4, rs4, e4, fun φ5 H5 g5 c5 => L2.iteF ?_⟩
            exact ⟨φ5, μ4, acc, rest, l3.step g5 c5, by rw [hdr]; exact e2, eps⟩
          · cases e2
    · cases e2
section
variable {K : PySem.W.Frag} {fi : IF} {t : TF} {tt : BF} {fe : EF} {ws vs : List Nat}
theorem tE_lcC (hvs : ∀ i ∈ ws, i ∈ vs) : ∀ σ H Q, tE K (eLcC fi t tt fe vs) σ H Q → tLc (tI K fi) (tG K t ws) (tT K tt) (tE K fe) vs σ H Q := fun σ H Q ⟨φ, ρ, μ, w, μ', rs, e, k⟩ => by
  unfold eLcC at e
  split at e
  · rename_i ds src μ1 e1
    split at e
    · rename_i ps μ2 e2
      split at e
      · rename_i hl
        cases e
        refine ⟨φ, ρ, μ, ds, src, μ1, rs, e1, fun φ1 J H1 g1 c1 wk D hD => ?_⟩
        exact lc_loop (rs.step g1 c1) wk hD hvs e2 hl fun φ2 H2 l => l.endC c1 hD fun φ3 v3 H3 g3 c3 r3 => k φ3 v3 H3 (g1.trans g3) c3 r3
      · cases e
    · cases e
  · cases e
theorem tE_lc (hvs : ∀ i ∈ ws, i ∈ vs) : ∀ σ H Q, tE K (eLc fi t tt fe vs) σ H Q → tLc (tI K fi) (tG K t ws) (tT K tt) (tE K fe) vs σ H Q := fun σ H Q ⟨φ, ρ, μ, w, μ', rs, e, k⟩ => by
  unfold eLc at e
  split at e
  · rename_i ds src μ1 e1
    split at e
    · rename_i ps μ2 e2
      split at e
      · rename_i hl
        cases e
        refine ⟨φ, ρ, μ, ds, src, μ1, rs, e1, fun φ1 J H1 g1 c1 wk D hD => ?_⟩
        exact lc_loop (rs.step g1 c1) wk hD hvs e2 hl fun φ2 H2 l => l.endD c1 hD fun φ3 v3 H3 g3 c3 r3 => k φ3 v3 H3 (g1.trans g3) c3 r3
      · cases e
    · cases e
  · cases e
end
section
variable {X : Cx} {elt tg iter : Expr} {ifs : List Expr} {scope : Scope} {own : List (Str × Nat)} {pos : Pos} {fi : IF} {t : TF} {tt : BF} {fe : EF} {ws : List Nat}
theorem ej_lc (hc : X.calm = true) (hN : X.N.Nodup) (hi : PI X tg iter (tI X.K fi)) (ok : BlkOk X.N X.env.scope scope own) (hvs : ∀ i ∈ ws, i ∈ own.map (·.2))
    (hg : ∀ (s : Shared) (H : Hp) (C : Addr) (cl : List (Str × Addr)) (fp : List Addr), PG (X.blk s H scope (compEnvC scope cl C X.env) fp) tg (tG X.K t ws)) (ht : ∀ (s : Shared) (H : Hp) (C : Addr) (cl : List (Str × Addr)) (fp : List Addr), PTs (X.blk s H scope (compEnvC scope cl C X.env) fp) ifs (tT X.K tt))
    (he : ∀ (s : Shared) (H : Hp) (C : Addr) (cl : List (Str × Addr)) (fp : List Addr), PE (X.blk s H scope (compEnvC scope cl C X.env) fp) elt (tE X.K fe)) (hs : ∀ x, foldedSetIterable iter X.env x = pure x := by intro _; rfl) :
    PE X (.ListComp elt [⟨tg, iter, ifs, 0⟩] scope pos) (tE X.K (eLc fi t tt fe (own.map (·.2)))) := PE.to (pe_lc hc hN hi ok hg ht he hs) (tE_lc hvs)
theorem ej_lcC (hc : X.calm = true) (hN : X.N.Nodup) (hi : PI X tg iter (tI X.K fi)) (ok : BlkOk X.N X.env.scope scope own) (hvs : ∀ i ∈ ws, i ∈ own.map (·.2))
    (hg : ∀ (s : Shared) (H : Hp) (C : Addr) (cl : List (Str × Addr)) (fp : List Addr), PG (X.blk s H scope (compEnvC scope cl C X.env) fp) tg (tG X.K t ws)) (ht : ∀ (s : Shared) (H : Hp) (C : Addr) (cl : List (Str × Addr)) (fp : List Addr), PTs (X.blk s H scope (compEnvC scope cl C X.env) fp) ifs (tT X.K tt))
    (he : ∀ (s : Shared) (H : Hp) (C : Addr) (cl : List (Str × Addr)) (fp : List Addr), PE (X.blk s H scope (compEnvC scope cl C X.env) fp) elt (tE X.K fe)) (hs : ∀ x, foldedSetIterable iter X.env x = pure x := by intro _; rfl) :
    PE X (.ListComp elt [⟨tg, iter, ifs, 0⟩] scope pos) (tE X.K (eLcC fi t tt fe (own.map (·.2)))) := PE.to (pe_lc hc hN hi ok hg ht he hs) (tE_lcC hvs)
/-- name = [..] -/
theorem sj_setLc_ {i : Nat} {y : Str} {py : Pos} {spos : Pos} {vs : List Nat} {f : EF} (hf : ∀ σ H Q, tE X.K f σ H Q → tLc (tI X.K fi) (tG X.K t ws) (tT X.K tt) (tE X.K fe) (own.map (·.2)) σ H Q) (hc : X.calm = true) (hN : X.N.Nodup) (hi : PI X tg iter (tI X.K fi)) (ok : BlkOk X.N X.env.scope scope own)
    (hg : ∀ (s : Shared) (H : Hp) (C : Addr) (cl : List (Str × Addr)) (fp : List Addr), PG (X.blk s H scope (compEnvC scope cl C X.env) fp) tg (tG X.K t ws)) (ht : ∀ (s : Shared) (H : Hp) (C : Addr) (cl : List (Str × Addr)) (fp : List Addr), PTs (X.blk s H scope (compEnvC scope cl C X.env) fp) ifs (tT X.K tt))
    (he : ∀ (s : Shared) (H : Hp) (C : Addr) (cl : List (Str × Addr)) (fp : List Addr), PE (X.blk s H scope (compEnvC scope cl C X.env) fp) elt (tE X.K fe)) (hy : X.N[i]? = some y) (hyl : X.env.scope.names.lookup y = some .local)
    (hsw : swapsWith (.ListComp elt [⟨tg, iter, ifs, 0⟩] scope pos) (some (.Name y py)) spos.line X.env = pure true) (hs : ∀ x, foldedSetIterable iter X.env x = pure x) :
    PS X (.Assign [.Name y py] (.ListComp elt [⟨tg, iter, ifs, 0⟩] scope pos) spos) (tS X.K (sAsg f (tNm i))) := PS.to (ps_setLc hc hN hy hyl hsw hi ok hg ht he hs) fun D σ H q => by
  refine hf σ H _ ?_
  obtain ⟨φ, ρ, μ, w, μ1, rs, e1, k⟩ := tS_asg (vs := [i]) D σ H q
  refine ⟨φ, ρ, μ, w, μ1, rs, e1, fun φ1 v1 H1 g1 c1 r1 => ?_⟩
  obtain ⟨φ2, ρ2, μ2, w2, ρ3, rs2, rv2, e2, k2⟩ := k φ1 v1 H1 g1 c1 r1
  cases e2
  exact k2 _ (rs2.put rv2) fun us hu => wipe_put (hu i (by simp))
theorem sj_setLc {i : Nat} {y : Str} {py : Pos} {spos : Pos} (hc : X.calm = true) (hN : X.N.Nodup) (hi : PI X tg iter (tI X.K fi)) (ok : BlkOk X.N X.env.scope scope own) (hvs : ∀ i ∈ ws, i ∈ own.map (·.2))
    (hg : ∀ (s : Shared) (H : Hp) (C : Addr) (cl : List (Str × Addr)) (fp : List Addr), PG (X.blk s H scope (compEnvC scope cl C X.env) fp) tg (tG X.K t ws)) (ht : ∀ (s : Shared) (H : Hp) (C : Addr) (cl : List (Str × Addr)) (fp : List Addr), PTs (X.blk s H scope (compEnvC scope cl C X.env) fp) ifs (tT X.K tt))
    (he : ∀ (s : Shared) (H : Hp) (C : Addr) (cl : List (Str × Addr)) (fp : List Addr), PE (X.blk s H scope (compEnvC scope cl C X.env) fp) elt (tE X.K fe)) (hy : X.N[i]? = some y := by rfl) (hyl : X.env.scope.names.lookup y = some .local := by rfl)
    (hsw : swapsWith (.ListComp elt [⟨tg, iter, ifs, 0⟩] scope pos) (some (.Name y py)) spos.line X.env = pure true := by exact sw_true rfl rfl rfl (by decide +kernel)) (hs : ∀ x, foldedSetIterable iter X.env x = pure x := by intro _; rfl) :
    PS X (.Assign [.Name y py] (.ListComp elt [⟨tg, iter, ifs, 0⟩] scope pos) spos) (tS X.K (sAsg (eLc fi t tt fe (own.map (·.2))) (tNm i))) := sj_setLc_ (vs := []) (tE_lc hvs) hc hN hi ok hg ht he hy hyl hsw hs
theorem sj_setLcC {i : Nat} {y : Str} {py : Pos} {spos : Pos} (hc : X.calm = true) (hN : X.N.Nodup) (hi : PI X tg iter (tI X.K fi)) (ok : BlkOk X.N X.env.scope scope own) (hvs : ∀ i ∈ ws, i ∈ own.map (·.2))
    (hg : ∀ (s : Shared) (H : Hp) (C : Addr) (cl : List (Str × Addr)) (fp : List Addr), PG (X.blk s H scope (compEnvC scope cl C X.env) fp) tg (tG X.K t ws)) (ht : ∀ (s : Shared) (H : Hp) (C : Addr) (cl : List (Str × Addr)) (fp : List Addr), PTs (X.blk s H scope (compEnvC scope cl C X.env) fp) ifs (tT X.K tt))
    (he : ∀ (s : Shared) (H : Hp) (C : Addr) (cl : List (Str × Addr)) (fp : List Addr), PE (X.blk s H scope (compEnvC scope cl C X.env) fp) elt (tE X.K fe)) (hy : X.N[i]? = some y := by rfl) (hyl : X.env.scope.names.lookup y = some .local := by rfl)
    (hsw : swapsWith (.ListComp elt [⟨tg, iter, ifs, 0⟩] scope pos) (some (.Name y py)) spos.line X.env = pure true := by exact sw_true rfl rfl rfl (by decide +kernel)) (hs : ∀ x, foldedSetIterable iter X.env x = pure x := by intro _; rfl) :
    PS X (.Assign [.Name y py] (.ListComp elt [⟨tg, iter, ifs, 0⟩] scope pos) spos) (tS X.K (sAsg (eLcC fi t tt fe (own.map (·.2))) (tNm i))) := sj_setLc_ (vs := []) (tE_lcC hvs) hc hN hi ok hg ht he hy hyl hsw hs
end
end VL
end
section
set_option Elab.async false
set_option linter.all false
set_option maxRecDepth 100000
namespace VL
open PySem PySem.Spec PyProof.Rows L2
variable [LawTabs]
/-! ### defs -/
abbrev FM := Mu → List Vw → Option (Vw × Mu)
def spM (K : PySem.W.Frag) (n : Nat) (m : FM) : Sp := fun vs H Q _ => ∃ φ μ ws w μ', Cells K φ H μ ∧ RVs K φ H ws vs ∧ ws.length = n ∧ m μ ws = some (w, μ') ∧ Post K φ H μ' w Q
@[simp] def frz (fresh : Bool) (n : Nat) (w : Vw) (μ1 : Mu) : Option (Vw × Mu) := match w with
  | .loc k => if k < n then some (.loc k, μ1.take n) else (match μ1[k]? with
    | some ds => if fresh = true then some (.loc n, μ1.take n ++ [ds]) else some (.d (.list ds), μ1.take n)
    | none => none)
  | w => some (w, μ1.take n)
def fnM (fresh : Bool) (n : Nat) (body : SF) (μ : Mu) (ws : List Vw) : Option (Vw × Mu) := match body (ws.map some ++ List.replicate (n - ws.length) none) μ with
  | some (.rt w μ1) => frz fresh μ.length w μ1
  | some (.nx _ μ1) => some (.d .none, μ1.take μ.length)
  | _ => none
section
variable {K : PySem.W.Frag} {φ φ2 : Ph} {H H2 : Hp} {μ μ1 : Mu}
theorem sub_av (g : Grow φ φ2 H H2) : ∀ a ∈ φ.av, a ∈ φ2.av := fun a ha => by
  obtain ⟨⟨χ, e1, _⟩, ⟨ψ, e2, _⟩, _, _⟩ := g
  rcases List.mem_append.mp ha with ha | ha
  · exact List.mem_append_left _ (by rw [e1]; exact List.mem_append_left _ ha)
  · exact List.mem_append_right _ (by rw [e2]; exact List.mem_append_left _ ha)
theorem cut_cells (c0 : Cells K φ H μ) (g : Grow φ φ2 H H2) (c : Cells K φ2 H2 μ1) : Cells K φ H2 (μ1.take μ.length) := by
  obtain ⟨ψ, e2, _⟩ := g.pre
  have hl : φ.2.length ≤ φ2.2.length := by rw [e2, List.length_append]; omega
  refine ⟨c0.nd, by rw [List.length_take, ← c.len, ← c0.len]; omega, fun n a ds h1 h2 => ?_, fun a ha z => c0.tr a ha (g.live a z), c.tb⟩
  have hn : n < φ.2.length := (List.getElem?_eq_some_iff.mp h1).1
  have h1' : φ2.2[n]? = some a := by rw [e2, List.getElem?_append_left hn]; exact h1
  have h2' : μ1[n]? = some ds := by
    rw [List.getElem?_take] at h2
    split at h2
    · exact h2
    · cases h2
  obtain ⟨xs, h3, h4⟩ := c.at_ n a ds h1' h2'
  exact ⟨xs, h3, DaAll.weak (sub_av g) ds xs h4⟩
theorem cut_grow (g : Grow φ φ2 H H2) : Grow φ φ H H2 := ⟨⟨[], by simp, by simp⟩, ⟨[], by simp, by simp⟩, g.ext, g.live⟩
theorem frz_post {fresh : Bool} {w w' : Vw} {v : V} {μ' : Mu} {Q : VK} (c0 : Cells K φ H μ) (g : Grow φ φ2 H H2) (c : Cells K φ2 H2 μ1) (r : RV K φ2 H2 w v) (e : frz fresh μ.length w μ1 = some (w', μ')) (k : Post K φ H μ' w' Q) : Q v H2 := by
  have c1 := cut_cells c0 g c
  have g1 := cut_grow g
  obtain ⟨ψ, e2, hψ⟩ := id g.pre
  unfold frz at e
  split at e
  · rename_i n
    split at e
    · rename_i hn
      cases e
      refine k φ v H2 g1 c1 ?_
      obtain ⟨a, h1, h2⟩ := r
      refine ⟨a, ?_, h2⟩
      rw [e2, List.getElem?_append_left (by rw [c0.len]; exact hn)] at h1
      exact h1
    · rename_i hn
      split at e
      · rename_i ds hds
        obtain ⟨a, h1, h2⟩ := r
        obtain ⟨xs, h3, h4⟩ := c.at_ n a ds h1 hds
        have ha : a ∈ φ2.2 := List.mem_of_getElem? h1
        have hna : a ∉ φ.2 := fun z => by
          obtain ⟨m, hm⟩ := List.getElem?_of_mem z
          have hm1 := (List.getElem?_eq_some_iff.mp hm).1
          have hm2 : φ2.2[m]? = some a := by rw [e2, List.getElem?_append_left hm1]; exact hm
          have h5 := List.getElem?_eq_some_iff.mp h1
          have h6 := List.getElem?_eq_some_iff.mp hm2
          have := (List.getElem_inj c.nd).mp (h5.2.trans h6.2.symm)
          rw [c0.len] at hm1
          omega
        have hnew : H a = none := by
          rw [e2] at ha
          rcases List.mem_append.mp ha with z | z
          · exact absurd z hna
          · exact hψ a z
        split at e
        · cases e
          have sub : ∀ b ∈ Ph.av (φ.1, φ.2 ++ [a]), b ∈ φ2.av := fun b hb => by
            rcases List.mem_append.mp hb with hb | hb
            · exact sub_av g b (List.mem_append_left _ hb)
            · rcases List.mem_append.mp hb with hb | hb
              · exact sub_av g b (List.mem_append_right _ hb)
              · rw [List.mem_singleton.mp hb]; exact List.mem_append_right _ ha
          subst h2
          refine k (φ.1, φ.2 ++ [a]) _ H2 ⟨⟨[], by simp, by simp⟩, ⟨[a], rfl, fun b hb => by rw [List.mem_singleton.mp hb]; exact hnew⟩, g.ext, g.live⟩ ⟨?_, ?_, fun m b es q1 q2 => ?_, c1.tr, c.tb⟩ ⟨a, ?_, rfl⟩
          · show (φ.2 ++ [a]).Nodup
            rw [List.nodup_append]
            exact ⟨c0.nd, by simp, fun x hx y hy => by rw [List.mem_singleton.mp hy]; intro z; subst z; exact hna hx⟩
          · show (φ.2 ++ [a]).length = _
            rw [List.length_append, List.length_append, ← c1.len]; rfl
          · by_cases hm : m < φ.2.length
            · have q1' : φ.2[m]? = some b := by
                have : (φ.2 ++ [a])[m]? = some b := q1
                rwa [List.getElem?_append_left hm] at this
              rw [List.getElem?_append_left (by rw [← c1.len]; exact hm)] at q2
              have hl1 : m < μ1.length := by
                have := (List.getElem?_eq_some_iff.mp q2).1
                rw [List.length_take] at this; omega
              have q2' : μ1[m]? = some es := by
                rw [List.getElem?_take] at q2
                split at q2
                · exact q2
                · cases q2
              obtain ⟨ys, h5, h6⟩ := c.at_ m b es (by rw [e2, List.getElem?_append_left hm]; exact q1') q2'
              exact ⟨ys, h5, DaAll.weak sub es ys h6⟩
            · have hl : m < (φ.2 ++ [a]).length := (List.getElem?_eq_some_iff.mp q1).1
              have em : m = φ.2.length := by
                rw [List.length_append, List.length_singleton] at hl; omega
              subst em
              have q1' : (φ.2 ++ [a])[φ.2.length]? = some b := q1
              rw [List.getElem?_append_right (Nat.le_refl _), Nat.sub_self] at q1'
              rw [List.getElem?_append_right (by rw [c1.len]; exact Nat.le_refl _), c1.len, Nat.sub_self] at q2
              cases q1'
              cases q2
              exact ⟨xs, h3, DaAll.weak sub _ xs h4⟩
          · show (φ.2 ++ [a])[μ.length]? = some a
            rw [← c0.len, List.getElem?_append_right (Nat.le_refl _), Nat.sub_self]; rfl
        · cases e
          refine k φ v H2 g1 c1 ⟨a, xs, h2, fun z => ?_, h3, DaAll.weak (sub_av g) ds xs h4⟩
          rcases List.mem_append.mp z with z | z
          · exact c0.tr a z hnew
          · exact hna z
      · cases e
  · rename_i hne
    cases e
    refine k φ v H2 g1 c1 ?_
    cases w with
    | d p => exact Da.weak (sub_av g) p v r
    | loc n => exact absurd rfl (hne n)
    | kl ns => obtain ⟨a, h1, h2⟩ := r; exact ⟨a, h1, KL.weak (sub_av g) h2⟩
    | rg lo hi => exact r
end
theorem rvs_start {K : PySem.W.Frag} {φ : Ph} {H : Hp} {μ : Mu} {ws : List Vw} {vs : List V} {N : List Str} (c : Cells K φ H μ) (r : RVs K φ H ws vs) : RS K φ (L2.start N vs) H (ws.map some ++ List.replicate (N.length - ws.length) none) μ := by
  have hl := r.len
  refine ⟨c, by unfold L2.start; simp [hl], fun i w h => ?_⟩
  by_cases hi : i < ws.length
  · rw [List.getElem?_append_left (by simpa using hi), List.getElem?_map] at h
    obtain ⟨z, h1, h2⟩ := Option.map_eq_some_iff.mp h
    cases h2
    obtain ⟨v, h3, h4⟩ := r.get h1
    exact ⟨v, by unfold L2.start; rw [List.getElem?_append_left (by rw [List.length_map, ← hl]; exact hi), List.getElem?_map, h3]; rfl, h4⟩
  · rw [List.getElem?_append_right (by simpa using hi)] at h
    have := List.mem_of_getElem? h
    rw [List.mem_replicate] at this
    cases this.2
section
variable {P : Program} {w : World} {K : PySem.W.Frag} {mg : Str → Option Value} {base : Heap}
/-- a def keeps the mirror's promise -/
theorem fn_ok (fresh : Bool) {x qual : Str} {params : Arguments} {body : List Stmt} {scope : Scope} {kws : List (Str × V)} {f : Addr} {fd : FuncData} {N ps : List Str} {k : Nat} {g : SF} (F : FunD K x qual params body scope [] kws f fd) (S : FnScope N ps scope)
    (h : ∀ (cdv : Value) (A : Around) (outer : List Env) (s : Shared) (H : Hp) (E : XK), Room k (A.deeper (envOfC qual scope s.heap.objs.size f cdv)) → PSs (cxOf CX0 P w K mg base N qual scope f cdv A outer s H E).nox body (tS K g)) :
    FnOk P w K mg base CX0 (k + 1) f fd ps (spM K ps.length (fnM fresh N.length g)) := by
  refine F.ok S (fun vs H Q E ⟨φ, μ, ws, w, μ', c, r, hl, e, k⟩ => by rw [← r.len, hl]) fun cdv A outer s H vs Q E hr hsp => ⟨_, (h cdv A outer s H E hr).nox, ?_⟩
  obtain ⟨φ, μ, ws, w, μ', c, r, hl, e, k⟩ := hsp
  refine ⟨φ, _, μ, rvs_start c r, ?_⟩
  unfold fnM at e
  split at e
  · rename_i w1 μ1 e1
    rw [e1]
    exact fun φ2 v2 H2 g2 c2 r2 => frz_post c g2 c2 r2 e k
  · rename_i ρ1 μ1 e1
    cases e
    rw [e1]
    exact fun φ2 σ2 H2 g2 r2 => k φ .non H2 (cut_grow g2) (cut_cells c g2 r2.c) rfl
  · cases e
/-- what may be called by the name x -/
structure CalM (P : Program) (w : World) (K : PySem.W.Frag) (mg : Str → Option Value) (base : Heap) (k : Nat) (x : Str) (n : Nat) (m : FM) : Prop where
  ex : ∃ f fd ps, FnOk P w K mg base CX0 k f fd ps (spM K n m) ∧ mg x = some (.ref f) ∧ PySem.W.keepIn K (.ref f) = true ∧ Binds K fd ps []
theorem CalM.mono {j k : Nat} {x : Str} {n : Nat} {m : FM} (c : CalM P w K mg base j x n m) (h : j ≤ k) : CalM P w K mg base k x n m := by
  obtain ⟨f, fd, ps, h1, h2, h3, h4⟩ := c.ex
  exact ⟨f, fd, ps, h1.mono h, h2, h3, h4⟩
theorem cal_ok (fresh : Bool) {x : Str} {params : Arguments} {body : List Stmt} {scope : Scope} {f : Addr} {fd : FuncData} {N ps : List Str} {k : Nat} {g : SF} (hf : mg x = some (.ref f)) (F : FunD K x x params body scope [] [] f fd) (S : FnScope N ps scope)
    (hb : ∀ (kV doc pm : Value) (an : Option Addr) (cdv ct : Value) (us : List Value), us.length = ps.length → bindArgs (PySem.W.fnOf x x params body scope .none kV doc pm an cdv ct) ⟨us, []⟩ = pure (ps.zip us))
    (h : ∀ (cdv : Value) (A : Around) (outer : List Env) (s : Shared) (H : Hp) (E : XK), Room k (A.deeper (envOfC x scope s.heap.objs.size f cdv)) → PSs (cxOf CX0 P w K mg base N x scope f cdv A outer s H E).nox body (tS K g)) :
    CalM P w K mg base (k + 1) x ps.length (fnM fresh N.length g) := ⟨f, fd, ps, fn_ok fresh F S h, hf, F.kp, F.bindsN hb⟩
end
@[simp] def eCall (n : Nat) (m : FM) (fa : AF) (ρ : Rho) (μ : Mu) : Option (Vw × Mu) := match fa ρ μ with
  | some (ws, μ1) => if ws.length = n then m μ1 ws else none
  | none => none
section
variable {X : Cx} {k n : Nat} {x : Str} {m : FM} {e : Expr} {es : List Expr} {fa : AF} {p pos : Pos}
theorem ej_call (c : CalM X.prog X.w X.K X.mg X.base k x n m) (hr : Room k X.A) (ha : PA X (e :: es) (tA X.K fa)) (hg : Gl X x := by rfl) (hdb : (x == ("__debug__" : Str)) = false := by decide)
    (he : starEach (e :: es) X.env = (false, eval e X.env) :: starEach es X.env := by rfl) (hpl : (backTo pos (starEach es X.env)).any (·.1) = false := by rfl) : PE X (.Call (.Name x p) (e :: es) [] pos) (tE X.K (eCall n m fa)) := by
  obtain ⟨f, fd, ps, F, hm, hk, hb⟩ := c.ex
  refine PE.to (pe_call F hr hg hm hk hb .nil pass0 ha hdb he hpl) fun σ H Q ⟨φ, ρ, μ, w, μ', rs, e, k⟩ => ?_
  unfold eCall at e
  split at e
  · rename_i ws μ1 e1
    split at e
    · rename_i hl
      refine ⟨φ, ρ, μ, ws, μ1, rs, e1, fun φ1 vs H1 g1 c1 r1 => ?_⟩
      refine ⟨φ1, μ1, ws, w, μ', c1, by rw [List.append_nil]; exact r1, hl, e, fun φ2 v2 H2 g2 c2 r2 => k φ2 v2 H2 (g1.trans g2) c2 r2⟩
    · cases e
  · cases e
theorem ej_call0 (c : CalM X.prog X.w X.K X.mg X.base k x n m) (hr : Room k X.A) (hg : Gl X x := by rfl) (hdb : (x == ("__debug__" : Str)) = false := by decide) : PE X (.Call (.Name x p) [] [] pos) (tE X.K (eCall n m aNil)) := by
  obtain ⟨f, fd, ps, F, hm, hk, hb⟩ := c.ex
  refine PE.to (pe_call0 F hr hg hm hk hb .nil pass0 hdb) fun σ H Q ⟨φ, ρ, μ, w, μ', rs, e, k⟩ => ?_
  unfold eCall aNil at e
  simp only at e
  split at e
  · rename_i hl
    exact ⟨φ, μ, [], w, μ', rs.c, rfl, hl, e, k⟩
  · cases e
/-! ### built-in functions -/
def OL (K : PySem.W.Frag) (r : List V → Hp → VK → Prop) (o : Mu → List Vw → Option Vw) : Prop := ∀ (φ : Ph) (H : Hp) (μ : Mu) (ws : List Vw) (w : Vw) (vs : List V) (Q : VK), Cells K φ H μ → RVs K φ H ws vs → o μ ws = some w → Post K φ H μ w Q → r vs H Q
@[simp] def eBi (o : Mu → List Vw → Option Vw) (fa : AF) (ρ : Rho) (μ : Mu) : Option (Vw × Mu) := match fa ρ μ with
  | some (ws, μ1) => (o μ1 ws).map fun z => (z, μ1)
  | none => none
theorem tE_bi {K : PySem.W.Frag} {r : List V → Hp → VK → Prop} {o : Mu → List Vw → Option Vw} (h : OL K r o) : ∀ σ H Q, tE K (eBi o fa) σ H Q → tCB r (tA K fa) σ H Q := fun σ H Q ⟨φ, ρ, μ, w, μ', rs, e, k⟩ => by
  unfold eBi at e
  split at e
  · rename_i ws μ1 e1
    obtain ⟨z, ez, e3⟩ := Option.map_eq_some_iff.mp e
    cases e3
    exact ⟨φ, ρ, μ, ws, _, rs, e1, fun φ1 vs H1 g1 c1 r1 => h φ1 H1 _ ws w vs Q c1 r1 ez fun φ2 v2 H2 g2 c2 r2 => k φ2 v2 H2 (g1.trans g2) c2 r2⟩
  · cases e
theorem ej_bi {id : String} {r : List V → Hp → VK → Prop} {o : Mu → List Vw → Option Vw} (hc : CallR X (.builtin id) r) (h : OL X.K r o) (hm : X.mg x = none) (ha : PA X (e :: es) (tA X.K fa)) (hv : bootBuiltins x = some (.builtin id)) (hg : Gl X x := by rfl) (hn : x ≠ "__name__" := by decide) (hdb : (x == ("__debug__" : Str)) = false := by decide)
    (he : starEach (e :: es) X.env = (false, eval e X.env) :: starEach es X.env := by rfl) (hpl : (backTo pos (starEach es X.env)).any (·.1) = false := by rfl) : PE X (.Call (.Name x p) (e :: es) [] pos) (tE X.K (eBi o fa)) := PE.to (pe_callB hc hg hm hv ha hn hdb he hpl) (tE_bi h)
theorem ej_bif {id : String} {r : List V → Hp → VK → Prop} {o : Mu → List Vw → Option Vw} (hc : CallR X (.builtin id) r) (h : OL X.K r o) (hm : X.mg x = some (.builtin id)) (ha : PA X (e :: es) (tA X.K fa)) (hg : Gl X x := by rfl) (hdb : (x == ("__debug__" : Str)) = false := by decide)
    (he : starEach (e :: es) X.env = (false, eval e X.env) :: starEach es X.env := by rfl) (hpl : (backTo pos (starEach es X.env)).any (·.1) = false := by rfl) : PE X (.Call (.Name x p) (e :: es) [] pos) (tE X.K (eBi o fa)) := PE.to (pe_callBfun hc hg hm ha hdb he hpl) (tE_bi h)
theorem ej_ty {T : String} {r : List V → Hp → VK → Prop} {o : Mu → List Vw → Option Vw} (hc : CallR X (.type T) r) (h : OL X.K r o) (hm : X.mg x = none) (ha : PA X (e :: es) (tA X.K fa)) (hv : bootBuiltins x = some (.type T)) (hg : Gl X x := by rfl) (hn : x ≠ "__name__" := by decide) (hdb : (x == ("__debug__" : Str)) = false := by decide)
    (he : starEach (e :: es) X.env = (false, eval e X.env) :: starEach es X.env := by rfl) (hpl : (backTo pos (starEach es X.env)).any (·.1) = false := by rfl) : PE X (.Call (.Name x p) (e :: es) [] pos) (tE X.K (eBi o fa)) := PE.to (pe_callTy hc hg hm hv ha hn hdb he hpl) (tE_bi h)
end
section
variable {K : PySem.W.Frag}
theorem rvs1 {φ : Ph} {H : Hp} {x : Vw} {vs : List V} (r : RVs K φ H [x] vs) : ∃ v, vs = [v] ∧ RV K φ H x v := by
  obtain ⟨v, r', e, h, h2⟩ := r
  have : r' = [] := h2
  subst this
  exact ⟨v, e, h⟩
theorem rvs2 {φ : Ph} {H : Hp} {x y : Vw} {vs : List V} (r : RVs K φ H [x, y] vs) : ∃ u v, vs = [u, v] ∧ RV K φ H x u ∧ RV K φ H y v := by
  obtain ⟨u, r', e, h, v, r2, e2, h2, h3⟩ := r
  have : r2 = [] := h3
  subst this e2
  exact ⟨u, v, e, h, h2⟩
@[simp] def oAbs (_ : Mu) (ws : List Vw) : Option Vw := match ws with
  | [.d (.int i)] => some (.d (.int (if i < 0 then -i else i)))
  | _ => none
theorem oAbs_ok : OL K (fun xs H Q => ∃ i, xs = [.int i] ∧ Q (.int (if i < 0 then -i else i)) H) oAbs := by
  intro φ H μ ws w vs Q c r e k
  unfold oAbs at e
  split at e
  · rename_i i
    cases e
    obtain ⟨v, rfl, h⟩ := rvs1 r
    cases h
    exact ⟨i, rfl, post_here k c rfl⟩
  · cases e
@[simp] def oMax2 (_ : Mu) (ws : List Vw) : Option Vw := match ws with
  | [.d (.int i), .d (.int j)] => some (.d (.int (if j > i then j else i)))
  | _ => none
theorem oMax2_ok : OL K (fun xs H Q => ∃ i j, xs = [.int i, .int j] ∧ Q (.int (if j > i then j else i)) H) oMax2 := by
  intro φ H μ ws w vs Q c r e k
  unfold oMax2 at e
  split at e
  · rename_i i j
    cases e
    obtain ⟨u, v, rfl, h, h2⟩ := rvs2 r
    cases h
    cases h2
    exact ⟨i, j, rfl, post_here k c rfl⟩
  · cases e
@[simp] def oMin2 (_ : Mu) (ws : List Vw) : Option Vw := match ws with
  | [.d (.int i), .d (.int j)] => some (.d (.int (if j < i then j else i)))
  | _ => none
theorem oMin2_ok : OL K (fun xs H Q => ∃ i j, xs = [.int i, .int j] ∧ Q (.int (if j < i then j else i)) H) oMin2 := by
  intro φ H μ ws w vs Q c r e k
  unfold oMin2 at e
  split at e
  · rename_i i j
    cases e
    obtain ⟨u, v, rfl, h, h2⟩ := rvs2 r
    cases h
    cases h2
    exact ⟨i, j, rfl, post_here k c rfl⟩
  · cases e
@[simp] def oInt (_ : Mu) (ws : List Vw) : Option Vw := match ws with
  | [.d (.int i)] => some (.d (.int i))
  | [.d (.bool b)] => some (.d (.int (if b then 1 else 0)))
  | _ => none
theorem oInt_ok : OL K (fun xs H Q => (∃ i, xs = [.int i] ∧ Q (.int i) H) ∨ ∃ k, xs = [.bl k] ∧ Q (.int (if k then 1 else 0)) H) oInt := by
  intro φ H μ ws w vs Q c r e k
  unfold oInt at e
  split at e
  · rename_i i
    cases e
    obtain ⟨v, rfl, h⟩ := rvs1 r
    cases h
    exact .inl ⟨i, rfl, post_here k c rfl⟩
  · rename_i b
    cases e
    obtain ⟨v, rfl, h⟩ := rvs1 r
    cases h
    exact .inr ⟨b, rfl, post_here k c rfl⟩
  · cases e
@[simp] def oLen (μ : Mu) (ws : List Vw) : Option Vw := match ws with
  | [.d (.tuple ds)] => some (.d (.int ds.length))
  | [x] => (toL μ x).map fun ds => .d (.int ds.length)
  | _ => none
theorem oLen_ok : OL K (fun xs H Q => ∃ x n, xs = [x] ∧ LenV K x H n ∧ Q (.int n) H) oLen := by
  intro φ H μ ws w vs Q c r e k
  unfold oLen at e
  split at e
  · rename_i ds
    cases e
    obtain ⟨v, rfl, a, xs, e1, h1, h2⟩ := rvs1 r
    subst e1
    exact ⟨_, ds.length, rfl, .inr ⟨xs, h1, h2.len⟩, post_here k c rfl⟩
  · rename_i x hne
    obtain ⟨ds, e1, e2⟩ := Option.map_eq_some_iff.mp e
    cases e2
    obtain ⟨v, rfl, h⟩ := rvs1 r
    obtain ⟨a, xs, e3, h1, h2⟩ := toL_ok c h e1
    subst e3
    exact ⟨_, ds.length, rfl, .inl ⟨xs, h1, h2.len⟩, post_here k c rfl⟩
  · cases e
@[simp] def oGcd (_ : Mu) (ws : List Vw) : Option Vw := match ws with
  | [.d (.int i), .d (.int j)] => some (.d (.int (Nat.gcd i.natAbs j.natAbs : Nat)))
  | _ => none
theorem oGcd_ok : OL K rGcd oGcd := by
  intro φ H μ ws w vs Q c r e k
  unfold oGcd at e
  split at e
  · rename_i i j
    cases e
    obtain ⟨u, v, rfl, h, h2⟩ := rvs2 r
    cases h
    cases h2
    exact ⟨i, j, rfl, post_here k c rfl⟩
  · cases e
@[simp] def oTupleOf (μ : Mu) (ws : List Vw) : Option Vw := match ws with
  | [.d (.tuple ds)] => some (.d (.tuple ds))
  | [x] => (toL μ x).map fun ds => .d (.tuple ds)
  | _ => none
theorem oTupleOf_ok : OL K (fun xs H Q => ∃ p ys, xs = [.ref p] ∧ ((SqL K H p ys ∧ ∀ l, H l = none → Q (.ref l) (upd H l (.tup ys))) ∨ (SqT K H p ys ∧ Q (.ref p) H))) oTupleOf := by
  intro φ H μ ws w vs Q c r e k
  unfold oTupleOf at e
  split at e
  · rename_i ds
    cases e
    obtain ⟨v, rfl, h⟩ := rvs1 r
    obtain ⟨a, xs, e1, h1, h2⟩ := id h
    subst e1
    exact ⟨a, xs, rfl, .inr ⟨h1, post_here k c h⟩⟩
  · rename_i x hne
    obtain ⟨ds, e1, e2⟩ := Option.map_eq_some_iff.mp e
    cases e2
    obtain ⟨v, rfl, h⟩ := rvs1 r
    obtain ⟨a, xs, e3, h1, h2⟩ := toL_ok c h e1
    subst e3
    exact ⟨a, xs, rfl, .inl ⟨h1, new_tup c h2 k⟩⟩
  · cases e
@[simp] def oListOf (μ : Mu) (ws : List Vw) : Option Vw := match ws with
  | [.d (.tuple ds)] => some (.d (.list ds))
  | [x] => (toL μ x).map fun ds => .d (.list ds)
  | _ => none
theorem oListOf_ok : OL K (fun xs H Q => ∃ p ys, xs = [.ref p] ∧ (SqL K H p ys ∨ SqT K H p ys) ∧ ∀ l, H l = none → Q (.ref l) (upd H l (.lst ys))) oListOf := by
  intro φ H μ ws w vs Q c r e k
  unfold oListOf at e
  split at e
  · rename_i ds
    cases e
    obtain ⟨v, rfl, a, xs, e1, h1, h2⟩ := rvs1 r
    subst e1
    exact ⟨a, xs, rfl, .inr h1, new_lst c h2 k⟩
  · rename_i x hne
    obtain ⟨ds, e1, e2⟩ := Option.map_eq_some_iff.mp e
    cases e2
    obtain ⟨v, rfl, h⟩ := rvs1 r
    obtain ⟨a, xs, e3, h1, h2⟩ := toL_ok c h e1
    subst e3
    exact ⟨a, xs, rfl, .inl h1, new_lst c h2 k⟩
  · cases e
/-- a list of bools -/
@[simp] def toB : List PyData → Option (List Bool)
  | [] => some []
  | .bool b :: r => (toB r).map fun q => b :: q
  | _ :: _ => none
theorem toB_da {A : List Addr} {H : Hp} : ∀ {ds : List PyData} {bs : List Bool} {xs : List V}, toB ds = some bs → DaAll K A H ds xs → xs = bs.map V.bl
  | [], _, _, e, h => by cases e; exact h
  | .bool b :: ds, _, _, e, ⟨v, vs, ev, h, hs⟩ => by
    obtain ⟨q, e1, e2⟩ := Option.map_eq_some_iff.mp e
    cases e2
    have hv : v = .bl b := h
    rw [ev, hv, toB_da e1 hs]; rfl
  | .none :: _, _, _, e, _ => by cases e
  | .int _ :: _, _, _, e, _ => by cases e
  | .str _ :: _, _, _, e, _ => by cases e
  | .list _ :: _, _, _, e, _ => by cases e
  | .tuple _ :: _, _, _, e, _ => by cases e
  | .dict _ :: _, _, _, e, _ => by cases e
@[simp] def oAll (μ : Mu) (ws : List Vw) : Option Vw := match ws with
  | [x] => (toL μ x).bind fun ds => (toB ds).map fun bs => .d (.bool (bs.all id))
  | _ => none
@[simp] def oAny (μ : Mu) (ws : List Vw) : Option Vw := match ws with
  | [x] => (toL μ x).bind fun ds => (toB ds).map fun bs => .d (.bool (bs.any id))
  | _ => none
theorem oAll_ok : OL K (rAll K) oAll := by
  intro φ H μ ws w vs Q c r e k
  unfold oAll at e
  split at e
  · rename_i x
    obtain ⟨ds, e1, e⟩ := Option.bind_eq_some_iff.mp e
    obtain ⟨bs, e2, e3⟩ := Option.map_eq_some_iff.mp e
    cases e3
    obtain ⟨v, rfl, h⟩ := rvs1 r
    obtain ⟨a, xs, e3, h1, h2⟩ := toL_ok c h e1
    subst e3
    have := toB_da e2 h2
    subst this
    exact ⟨a, bs, rfl, h1, post_here k c rfl⟩
  · cases e
theorem oAny_ok : OL K (rAny K) oAny := by
  intro φ H μ ws w vs Q c r e k
  unfold oAny at e
  split at e
  · rename_i x
    obtain ⟨ds, e1, e⟩ := Option.bind_eq_some_iff.mp e
    obtain ⟨bs, e2, e3⟩ := Option.map_eq_some_iff.mp e
    cases e3
    obtain ⟨v, rfl, h⟩ := rvs1 r
    obtain ⟨a, xs, e3, h1, h2⟩ := toL_ok c h e1
    subst e3
    have := toB_da e2 h2
    subst this
    exact ⟨a, bs, rfl, h1, post_here k c rfl⟩
  · cases e
/-! ### isinstance -/
@[simp] def tyN : Vw → String
  | .d .none => "NoneType"
  | .d (.bool _) => "bool"
  | .d (.int _) => "int"
  | .d (.str _) => "str"
  | .d (.list _) => "list"
  | .d (.tuple _) => "tuple"
  | .d (.dict _) => "dict"
  | .loc _ => "list"
  | .kl _ => "list"
  | .rg _ _ => ""
@[simp] def isRg : Vw → Bool
  | .rg _ _ => true
  | .d (.dict ((.str q, _) :: _)) => !(decide (q = "dict"))
  | _ => false
def tyNs : List String := ["NoneType", "bool", "int", "str", "list", "tuple", "dict"]
def isaB (a T : String) : Bool := decide (a = T) || (decide (a = "bool") && decide (T = "int"))
@[simp] def eIsi (T : String) (f : EF) (ρ : Rho) (μ : Mu) : Option (Vw × Mu) := match f ρ μ with
  | some (w, μ1) => if isRg w = true then none else some (.d (.bool (isaB (tyN w) T)), μ1)
  | none => none
theorem tyN_mem (w : Vw) (hr : ¬ isRg w = true) : tyN w ∈ tyNs := by
  cases w with
  | rg lo hi => exact absurd rfl hr
  | d p => cases p <;> simp [tyN, tyNs]
  | loc n => simp [tyN, tyNs]
  | kl n => simp [tyN, tyNs]
theorem tyN_ok {φ : Ph} {H : Hp} {μ : Mu} {w : Vw} {v : V} (c : Cells K φ H μ) (r : RV K φ H w v) (hr : ¬ isRg w = true) : TyX K H v (.type (tyN w)) := by
  have tup : ∀ {a : Addr} {xs : List V}, SqT K H a xs → TyX K H (.ref a) (.type "tuple") := fun {a xs} h => by
    rcases h with (h | ⟨o, h⟩) | ⟨o, its, n, h1, h2, _⟩
    · exact .base (.tup h)
    · exact .fTuple h
    · exact .kTuple h1 h2
  cases w with
  | rg lo hi => exact absurd rfl hr
  | d p =>
    cases p with
    | none => cases r; exact .base .non
    | bool b => cases r; exact .base (.bl b)
    | int i => cases r; exact .base (.int i)
    | str x => cases r; exact .base (.str x)
    | list ds => obtain ⟨a, xs, e, _, h, _⟩ := r; subst e; exact .base (.lst h)
    | tuple ds => obtain ⟨a, xs, e, h, _⟩ := r; subst e; exact tup h
    | dict kvs =>
      rcases r with ⟨_, a, e, _, h⟩ | ⟨x, e, _⟩ | ⟨_, a, e, h⟩ | h
      · subst e; exact .base (.dK h)
      · subst e; exact absurd rfl hr
      · subst e
        rcases h with ⟨xs, h⟩ | ⟨xs, h⟩
        · exact .base (.dK h)
        · exact .base (.dT h)
      · match kvs, h with
        | (k, d) :: s, ⟨C, a, dx, xs, ek, ed, _⟩ => subst ek; exact absurd rfl hr
  | loc n =>
    obtain ⟨a, h1, e⟩ := r
    subst e
    obtain ⟨xs, h⟩ := c.mem (List.mem_of_getElem? h1)
    exact .base (.lst h)
  | kl ns =>
    obtain ⟨a, e, h⟩ := r
    subst e
    rcases h with ⟨o, h⟩ | ⟨_, h⟩ | ⟨o, its, n, h1, h2, _⟩
    · exact .base (.frz h)
    · exact .base (.lst h)
    · exact .kList h1 h2
theorem ej_isi {X : Cx} (T : String) {x : Str} {e : Expr} {f : EF} {p p2 pos : Pos} (hk : ∀ a ∈ tyNs, kitB a T = some (isaB a T)) (hm : X.mg "isinstance" = none) (hm2 : X.mg x = none) (he : PE X e (tE X.K f)) (hv2 : bootBuiltins x = some (.type T)) (hg : Gl X "isinstance" := by rfl) (hg2 : Gl X x := by rfl)
    (hn2 : x ≠ "__name__" := by decide) (hd2 : (x == ("__debug__" : Str)) = false := by decide) (hs1 : starEach [e, .Name x p2] X.env = (false, eval e X.env) :: starEach [.Name x p2] X.env := by rfl) (hs2 : starEach [.Name x p2] X.env = (false, eval (.Name x p2) X.env) :: starEach [] X.env := by rfl)
    (hpl : (backTo pos (starEach [.Name x p2] X.env)).any (·.1) = false := by rfl) : PE X (.Call (.Name "isinstance" p) [e, .Name x p2] [] pos) (tE X.K (eIsi T f)) :=
  PE.to (pe_callB call_isi hg hm (by decide +kernel) (pa_cons he (pa_cons (pe_bltn (v := .ty T) hg2 hm2 hv2 rfl hn2 hd2) pa_nil hs2) hs1) (by decide) (by decide) hs1 hpl) fun σ H Q ⟨φ, ρ, μ, w, μ', rs, e, k⟩ => by
  unfold eIsi at e
  split at e
  · rename_i z μ1 e1
    split at e
    · cases e
    · rename_i hr
      cases e
      exact ⟨φ, ρ, μ, z, _, rs, e1, fun φ1 v H1 g1 c1 r1 => ⟨v, .ty T, _, _, _, rfl, .ty T, tyN_ok c1 r1 hr, kit_ty (hk _ (tyN_mem z hr)), k φ1 _ H1 g1 c1 rfl⟩⟩
  · cases e
end
end VL
end
section
set_option Elab.async false
set_option linter.all false
set_option maxRecDepth 100000
namespace VL
open PySem PySem.Spec PyProof.Rows L2
variable [LawTabs]
/-! ### truth -/
@[simp] def tru (μ : Mu) : Vw → Option Bool
  | .d .none => some false
  | .d (.bool b) => some b
  | .d (.int i) => some (i != 0)
  | .d (.tuple ds) => some (!ds.isEmpty)
  | .d (.list ds) => some (!ds.isEmpty)
  | .loc n => (μ[n]?).map fun ds => !ds.isEmpty
  | .kl ns => some (!ns.isEmpty)
  | _ => none
theorem emp_da {K : PySem.W.Frag} {A : List Addr} {H : Hp} {ds : List PyData} {xs : List V} (h : DaAll K A H ds xs) : ds.isEmpty = xs.isEmpty := by
  have := h.len
  cases ds <;> cases xs <;> first | rfl | simp at this
theorem tru_V {K : PySem.W.Frag} {φ : Ph} {H : Hp} {μ : Mu} {w : Vw} {v : V} {b : Bool} (c : Cells K φ H μ) (r : RV K φ H w v) (e : tru μ w = some b) : TruV K v H b := by
  cases w with
  | rg lo hi => cases e
  | d p =>
    cases p with
    | none => cases e; cases r; rfl
    | bool b => cases e; cases r; rfl
    | int i => cases e; cases r; rfl
    | str x => cases e
    | list ds => cases e; obtain ⟨a, xs, e, _, h, hs⟩ := r; subst e; exact .inl ⟨xs, SqL.of h, by rw [emp_da hs]⟩
    | tuple ds => cases e; obtain ⟨a, xs, e, h, hs⟩ := r; subst e; exact .inr (.inl ⟨xs, h, by rw [emp_da hs]⟩)
    | dict kvs => cases e
  | loc n =>
    obtain ⟨ds, e1, e2⟩ := Option.map_eq_some_iff.mp e
    cases e2
    obtain ⟨a, h1, e⟩ := r
    subst e
    obtain ⟨xs, h, hs⟩ := c.at_ n a ds h1 e1
    exact .inl ⟨xs, SqL.of h, by rw [emp_da hs]⟩
  | kl ns =>
    cases e
    obtain ⟨a, e, h⟩ := r
    subst e
    exact .inl ⟨_, h.sq, by cases ns <;> rfl⟩
@[simp] def bTru (f : EF) (ρ : Rho) (μ : Mu) : Option (Bool × Mu) := match f ρ μ with
  | some (w, μ1) => (tru μ1 w).map fun b => (b, μ1)
  | none => none
theorem tj_tru {X : Cx} {a : Expr} {f : EF} (ha : PE X a (tE X.K f)) (he : ∀ whole, isTrue a X.env whole = (do let v ← whole; standAt a.pos; holding [v] (truthy v)) := by intro _; rfl) : PT X a (tT X.K (bTru f)) := PT.to (pt_truth ha he) fun σ H Q ⟨φ, ρ, μ, b, μ', rs, e, k⟩ => by
  unfold bTru at e
  split at e
  · rename_i w μ1 e1
    obtain ⟨c, e2, e3⟩ := Option.map_eq_some_iff.mp e
    cases e3
    exact ⟨φ, ρ, μ, w, _, rs, e1, fun φ1 v H1 g1 c1 r1 => ⟨_, tru_V c1 r1 e2, k φ1 H1 g1 c1⟩⟩
  · cases e
@[simp] def eNotT (f : EF) (ρ : Rho) (μ : Mu) : Option (Vw × Mu) := match f ρ μ with
  | some (w, μ1) => (tru μ1 w).map fun b => (.d (.bool (!b)), μ1)
  | none => none
theorem ej_notT {X : Cx} {a : Expr} {pos : Pos} {f : EF} (ha : PE X a (tE X.K f)) : PE X (.UnaryOp .Not a pos) (tE X.K (eNotT f)) := PE.to (pe_notT ha) fun σ H Q ⟨φ, ρ, μ, w, μ', rs, e, k⟩ => by
  unfold eNotT at e
  split at e
  · rename_i z μ1 e1
    obtain ⟨c, e2, e3⟩ := Option.map_eq_some_iff.mp e
    cases e3
    exact ⟨φ, ρ, μ, z, _, rs, e1, fun φ1 v H1 g1 c1 r1 => ⟨_, tru_V c1 r1 e2, k φ1 _ H1 g1 c1 rfl⟩⟩
  · cases e
/-! ### slices -/
def cutD (xs : List PyData) (lo hi : Option Int) : List PyData := (xs.drop (HT.sIx xs.length 0 lo)).take (HT.sIx xs.length xs.length hi - HT.sIx xs.length 0 lo)
theorem cut_da {K : PySem.W.Frag} {A : List Addr} {H : Hp} {ds : List PyData} {xs : List V} {lo hi : Option Int} (h : DaAll K A H ds xs) : DaAll K A H (cutD ds lo hi) (cutV xs lo hi) := by
  unfold cutD cutV
  rw [h.len]
  exact DaAll.take _ (DaAll.drop _ h)
/-- a part of a slice -/
abbrev OF := Rho → Mu → Option (Option Int × Mu)
@[simp] def oNo (_ : Rho) (μ : Mu) : Option (Option Int × Mu) := some (none, μ)
@[simp] def oYes (f : EF) (ρ : Rho) (μ : Mu) : Option (Option Int × Mu) := match f ρ μ with
  | some (.d (.int i), μ1) => some (some i, μ1)
  | _ => none
def tO (K : PySem.W.Frag) (f : OF) : TO := fun σ H Q => ∃ φ ρ μ o μ', RS K φ σ H ρ μ ∧ f ρ μ = some (o, μ') ∧ ∀ φ' H', Grow φ φ' H H' → Cells K φ' H' μ' → Q o H'
theorem PO.to {X : Cx} {e : Option Expr} {t u : TO} (h : PO X e t) (k : ∀ σ H Q, u σ H Q → t σ H Q) : PO X e u := ⟨fun pins s σ H Q I q => h.run pins s σ H Q I (k σ H Q q)⟩
theorem oj_no {X : Cx} : PO X none (tO X.K oNo) := PO.to po_none fun σ H Q ⟨φ, ρ, μ, o, μ', rs, e, k⟩ => by
  cases e
  exact k φ H (.refl _ _) rs.c
theorem oj_yes {X : Cx} {e : Expr} {f : EF} (h : PE X e (tE X.K f)) : PO X (some e) (tO X.K (oYes f)) := PO.to (po_some h) fun σ H Q ⟨φ, ρ, μ, o, μ', rs, e, k⟩ => by
  unfold oYes at e
  split at e
  · rename_i i μ1 e1
    cases e
    exact ⟨φ, ρ, μ, _, _, rs, e1, fun φ1 v H1 g1 c1 r1 => ⟨i, r1, k φ1 H1 g1 c1⟩⟩
  · cases e
@[simp] def oSl (μ : Mu) (x : Vw) (lo hi : Option Int) : Option Vw := match x with
  | .d (.tuple ds) => some (.d (.tuple (cutD ds lo hi)))
  | x => (toL μ x).map fun ds => .d (.list (cutD ds lo hi))
@[simp] def eSl (f : EF) (g h : OF) (ρ : Rho) (μ : Mu) : Option (Vw × Mu) := match f ρ μ with
  | some (x, μ1) => (match g ρ μ1 with
    | some (lo, μ2) => (match h ρ μ2 with
      | some (hi, μ3) => (oSl μ3 x lo hi).map fun z => (z, μ3)
      | none => none)
    | none => none)
  | none => none
theorem ej_sl {X : Cx} {a : Expr} {lo hi : Option Expr} {p2 pos : Pos} {f : EF} {g h : OF} (ha : PE X a (tE X.K f)) (hl : PO X lo (tO X.K g)) (hh : PO X hi (tO X.K h)) : PE X (.Subscript a (.Slice lo hi none p2) pos) (tE X.K (eSl f g h)) :=
  PE.to (pe_slice (SlR.or sl_list sl_tupA) ha hl hh) fun σ H Q ⟨φ, ρ, μ, w, μ', rs, e, k⟩ => by
  unfold eSl at e
  split at e
  · rename_i x μ1 e1
    refine ⟨φ, ρ, μ, x, μ1, rs, e1, fun φ1 v H1 g1 c1 r1 => ?_⟩
    split at e
    · rename_i l μ2 e2
      have rs1 := rs.step g1 c1
      refine ⟨φ1, ρ, μ1, l, μ2, rs1, e2, fun φ2 H2 g2 c2 => ?_⟩
      split at e
      · rename_i u μ3 e3
        refine ⟨φ2, ρ, μ2, u, μ3, rs1.step g2 c2, e3, fun φ3 H3 g3 c3 => ?_⟩
        obtain ⟨z, e4, e5⟩ := Option.map_eq_some_iff.mp e
        cases e5
        have r3 := RV.step (g2.trans g3).w _ _ r1
        have gg := (g1.trans g2).trans g3
        unfold oSl at e4
        split at e4
        · rename_i ds
          cases e4
          obtain ⟨a, xs, q1, h1, h2⟩ := id r3
          subst q1
          refine .inr ⟨a, xs, rfl, h1, fun z => ?_, fun _ => new_tup c3 (cut_da h2) fun φ4 v4 H4 g4 c4 r4 => k φ4 v4 H4 (gg.trans g4) c4 r4⟩
          refine k φ3 _ H3 gg c3 ?_
          have e6 : cutD ds l u = ds := by
            unfold cutD
            rw [h2.len, z.1, z.2, List.drop_zero, Nat.sub_zero, ← h2.len, List.take_length]
          rw [e6]
          exact r3
        · rename_i hne
          obtain ⟨ds, e5, e6⟩ := Option.map_eq_some_iff.mp e4
          cases e6
          obtain ⟨a, xs, q1, h1, h2⟩ := toL_ok c3 r3 e5
          subst q1
          exact .inl ⟨a, xs, rfl, h1, new_lst c3 (cut_da h2) fun φ4 v4 H4 g4 c4 r4 => k φ4 v4 H4 (gg.trans g4) c4 r4⟩
      · cases e
    · cases e
  · cases e
/-! ### reversed, zip, enumerate -/
/-- what stays walkable: a tuple, a list (data, of the number n) -/
def seqT : Vw → Option (List PyData)
  | .d (.tuple ds) => some ds
  | _ => none
@[simp] def seqL (μ : Mu) : Vw → Option (List PyData × Option Nat)
  | .d (.list ds) => some (ds, none)
  | .loc n => (μ[n]?).map fun ds => (ds, some n)
  | .kl ns => some (ns.map PyData.int, none)
  | _ => none
theorem seqL_ok {K : PySem.W.Frag} {φ : Ph} {H : Hp} {μ : Mu} {w : Vw} {v : V} {ds : List PyData} {src : Option Nat} (c : Cells K φ H μ) (r : RV K φ H w v) (e : seqL μ w = some (ds, src)) : ∃ a, v = .ref a ∧ ∀ φ' H' μ', GrowW φ φ' H H' → Cells K φ' H' μ' → (∀ n, src = some n → μ'[n]? = some ds) → ∃ xs, SqL K H' a xs ∧ DaAll K φ'.av H' ds xs := by
  cases w with
  | rg lo hi => cases e
  | d p =>
    cases p with
    | list es =>
      cases e
      obtain ⟨a, xs, e1, h⟩ := id r
      refine ⟨a, e1, fun φ' H' μ' g c' _ => ?_⟩
      obtain ⟨b, ys, e2, _, h1, h2⟩ := Da.step g (.list _) v r
      rw [e1] at e2; cases e2
      exact ⟨ys, SqL.of h1, h2⟩
    | _ => cases e
  | loc n =>
    obtain ⟨es, e1, e2⟩ := Option.map_eq_some_iff.mp e
    cases e2
    obtain ⟨a, h1, h2⟩ := id r
    refine ⟨a, h2, fun φ' H' μ' g c' hs => ?_⟩
    obtain ⟨b, h3, h4⟩ := RV.step g _ _ r
    rw [h2] at h4; cases h4
    obtain ⟨xs, h5, h6⟩ := c'.at_ n a ds h3 (hs n rfl)
    exact ⟨xs, SqL.of h5, h6⟩
  | kl ns =>
    cases e
    obtain ⟨a, h1, h2⟩ := r
    exact ⟨a, h1, fun φ' H' μ' g c' _ => ⟨_, (g.kl h2).sq, DaAll.ints ns⟩⟩
@[simp] def iRev (f : EF) (ρ : Rho) (μ : Mu) : Option (List PyData × Option Nat × Mu) := match f ρ μ with
  | some (.d (.tuple ds), μ1) => some (ds.reverse, none, μ1)
  | some (.d (.list ds), μ1) => some (ds.reverse, none, μ1)
  | _ => none
theorem rev_get {ds : List PyData} {i : Nat} {d : PyData} (e : ds.reverse[i]? = some d) : i < ds.length ∧ ds[ds.length - 1 - i]? = some d := by
  have hl : i < ds.length := by
    have := (List.getElem?_eq_some_iff.mp e).1
    simpa using this
  rw [List.getElem?_reverse hl] at e
  exact ⟨hl, e⟩
theorem ij_rev {X : Cx} {tg e : Expr} {f : EF} {p pos : Pos} (hm : X.mg "reversed" = none) (he : PE X e (tE X.K f)) (hg : Gl X "reversed" := by rfl) (hs : starEach [e] X.env = (false, eval e X.env) :: starEach [] X.env := by rfl) : PI X tg (.Call (.Name "reversed" p) [e] [] pos) (tI X.K (iRev f)) :=
  PI.to (RT.pi_revA hg hm he hs) fun σ H R ⟨φ, ρ, μ, ds, src, μ', rs, e, k⟩ => by
  unfold iRev at e
  split at e
  · rename_i es μ1 e1
    cases e
    refine ⟨φ, ρ, μ, _, _, rs, e1, fun φ1 v H1 g1 c1 r1 => ?_⟩
    obtain ⟨a, xs, e2, h1, h2⟩ := r1
    refine ⟨a, xs, e2, .inr ⟨h1, k φ1 _ H1 g1 c1 fun φ' H' μ2 g c _ i => ?_⟩⟩
    have h1' := g.sqT h1
    have h2' := DaAll.step g _ _ h2
    refine ⟨fun d e => ?_, fun hl => by
      show xs.length ≤ i
      rw [List.length_reverse] at hl
      rw [← h2.len]; exact hl⟩
    obtain ⟨hl, e3⟩ := rev_get e
    obtain ⟨z, e4, e5⟩ := h2'.get e3
    rw [h2.len] at e4
    refine ⟨⟨by rw [← h2.len]; exact hl, xs, z, h1', e4⟩, fun x H'' hy => ?_⟩
    obtain ⟨rfl, hy⟩ := hy
    have := hy xs h1'
    rw [e4] at this; cases this
    exact ⟨.refl _ _, c, e5⟩
  · rename_i es μ1 e1
    cases e
    refine ⟨φ, ρ, μ, _, _, rs, e1, fun φ1 v H1 g1 c1 r1 => ?_⟩
    obtain ⟨a, xs, e2, hn, h1, h2⟩ := id r1
    refine ⟨a, xs, e2, .inl ⟨SqL.of h1, k φ1 _ H1 g1 c1 fun φ' H' μ2 g c _ i => ?_⟩⟩
    obtain ⟨b, ys, e3, _, h1', h2'⟩ := Da.step g (.list es) v r1
    rw [e2] at e3; cases e3
    have ll : xs.length = ys.length := by rw [← h2.len, h2'.len]
    refine ⟨fun d e => ?_, fun hl => by
      show xs.length ≤ i
      rw [List.length_reverse] at hl
      rw [← h2.len]; exact hl⟩
    obtain ⟨hl, e3⟩ := rev_get e
    obtain ⟨z, e4, e5⟩ := h2'.get e3
    rw [h2.len] at e4
    refine ⟨⟨by rw [← h2.len]; exact hl, ys, z, SqL.of h1', e4⟩, fun x H'' hy => ?_⟩
    obtain ⟨rfl, hy⟩ := hy
    have := hy ys (SqL.of h1')
    rw [e4] at this; cases this
    exact ⟨.refl _ _, c, e5⟩
  · cases e
def zipD (xs ys : List PyData) : List PyData := (xs.zip ys).map fun p => .tuple [p.1, p.2]
theorem zipD_get {xs ys : List PyData} {i : Nat} {d : PyData} (e : (zipD xs ys)[i]? = some d) : ∃ x y, xs[i]? = some x ∧ ys[i]? = some y ∧ d = .tuple [x, y] := by
  unfold zipD at e
  rw [List.getElem?_map] at e
  obtain ⟨⟨x, y⟩, e1, e2⟩ := Option.map_eq_some_iff.mp e
  obtain ⟨h1, h2⟩ := List.getElem?_zip_eq_some.mp e1
  exact ⟨x, y, h1, h2, e2.symm⟩
theorem zipD_end {xs ys : List PyData} {i : Nat} (e : (zipD xs ys).length ≤ i) : xs.length ≤ i ∨ ys.length ≤ i := by
  unfold zipD at e
  rw [List.length_map, List.length_zip] at e
  omega
/-- zip of two tuples, of two lists of data -/
@[simp] def iZip (f g : EF) (ρ : Rho) (μ : Mu) : Option (List PyData × Option Nat × Mu) := match f ρ μ with
  | some (x, μ1) => (match g ρ μ1 with
    | some (y, μ2) => (match x, y with
      | .d (.tuple xs), .d (.tuple ys) => some (zipD xs ys, none, μ2)
      | .d (.list xs), .d (.list ys) => some (zipD xs ys, none, μ2)
      | _, _ => none)
    | none => none)
  | none => none
theorem pair_da {K : PySem.W.Frag} {φ : Ph} {H : Hp} {T : Addr} {x y : V} {d e : PyData} (hT : H T = none) (h1 : Da K φ.av H d x) (h2 : Da K φ.av H e y) : Da K φ.av (upd H T (.tup [x, y])) (.tuple [d, e]) (.ref T) :=
  ⟨T, [x, y], rfl, SqT.of upd_same, x, [y], rfl, Da.step (Grow.laid hT).w _ _ h1, y, [], rfl, Da.step (Grow.laid hT).w _ _ h2, rfl⟩
theorem ij_zip {X : Cx} {e e2 : Expr} {elts : List Expr} {kk : Nat} {f g : EF} {p pos tpos : Pos} (hm : X.mg "zip" = none) (he : PE X e (tE X.K f)) (he2 : PE X e2 (tE X.K g)) (hg : Gl X "zip" := by rfl)
    (hs : starEach [e, e2] X.env = (false, eval e X.env) :: starEach [e2] X.env := by rfl) (hs2 : starEach [e2] X.env = (false, eval e2 X.env) :: starEach [] X.env := by rfl) (hpl : (backTo pos (starEach [e2] X.env)).any (·.1) = false := by rfl) : PI X (.Tuple elts kk tpos) (.Call (.Name "zip" p) [e, e2] [] pos) (tI X.K (iZip f g)) :=
  PI.to (RZ.pi_zipA hg hm (aj_cons he (aj_cons he2 aj_nil hs2) hs) hs hpl) fun σ H R ⟨φ, ρ, μ, ds, src, μ', rs, e, k⟩ => by
  unfold iZip at e
  split at e
  · rename_i x μ1 e1
    split at e
    · rename_i y μ2 e2
      have ea : aCons f (aCons g aNil) ρ μ = some ([x, y], μ2) := by simp only [aCons, aNil, e1, e2]; rfl
      split at e
      · rename_i xs ys
        cases e
        refine ⟨φ, ρ, μ, _, _, rs, ea, fun φ1 vs H1 g1 c1 r1 => ?_⟩
        obtain ⟨u, v, rfl, ⟨a, us, q1, h1, s1⟩, ⟨b, vs, q2, h2, s2⟩⟩ := rvs2 r1
        subst q1 q2
        refine ⟨a, b, us, vs, rfl, .inr ⟨h1, h2, k φ1 _ H1 g1 c1 fun φ' H' μ2 g c _ i => ?_⟩⟩
        have h1' := g.sqT h1
        have h2' := g.sqT h2
        have s1' := DaAll.step g _ _ s1
        have s2' := DaAll.step g _ _ s2
        refine ⟨fun d e => ?_, fun hl => ⟨us, vs, h1', h2', by rw [← s1.len, ← s2.len]; exact zipD_end hl⟩⟩
        obtain ⟨d1, d2, e3, e4, rfl⟩ := zipD_get e
        obtain ⟨z1, e5, e6⟩ := s1'.get e3
        obtain ⟨z2, e7, e8⟩ := s2'.get e4
        refine ⟨⟨us, vs, z1, z2, h1', h2', e5, e7⟩, fun x H'' hy => ?_⟩
        obtain ⟨T, x1, x2, rfl, hT, rfl, q1, q2⟩ := hy
        have w1 := q1 us h1'
        have w2 := q2 vs h2'
        rw [e5] at w1; cases w1
        rw [e7] at w2; cases w2
        exact ⟨Grow.laid hT, c.laid hT, pair_da hT e6 e8⟩
      · rename_i xs ys
        cases e
        refine ⟨φ, ρ, μ, _, _, rs, ea, fun φ1 vs H1 g1 c1 r1 => ?_⟩
        obtain ⟨u, v, rfl, q1, q2⟩ := rvs2 r1
        obtain ⟨a, us, q3, _, h1, s1⟩ := id q1
        obtain ⟨b, vs, q4, _, h2, s2⟩ := id q2
        subst q3 q4
        refine ⟨a, b, us, vs, rfl, .inl ⟨SqL.of h1, SqL.of h2, k φ1 _ H1 g1 c1 fun φ' H' μ2 g c _ i => ?_⟩⟩
        obtain ⟨a', us', q3, _, h1', s1'⟩ := Da.step g (.list xs) _ q1
        obtain ⟨b', vs', q4, _, h2', s2'⟩ := Da.step g (.list ys) _ q2
        cases q3
        cases q4
        refine ⟨fun d e => ?_, fun hl => ⟨us', vs', SqL.of h1', SqL.of h2', by rw [← s1'.len, ← s2'.len]; exact zipD_end hl⟩⟩
        obtain ⟨d1, d2, e3, e4, rfl⟩ := zipD_get e
        obtain ⟨z1, e5, e6⟩ := s1'.get e3
        obtain ⟨z2, e7, e8⟩ := s2'.get e4
        refine ⟨⟨us', vs', z1, z2, SqL.of h1', SqL.of h2', e5, e7⟩, fun x H'' hy => ?_⟩
        obtain ⟨T, x1, x2, rfl, hT, rfl, q1, q2⟩ := hy
        have w1 := q1 us' (SqL.of h1')
        have w2 := q2 vs' (SqL.of h2')
        rw [e5] at w1; cases w1
        rw [e7] at w2; cases w2
        exact ⟨Grow.laid hT, c.laid hT, pair_da hT e6 e8⟩
      · cases e
    · cases e
  · cases e
/-! ### texts of ints and bools -/
@[simp] def oStr (_ : Mu) (ws : List Vw) : Option Vw := match ws with
  | [.d (.int i)] => if i.natAbs.log2 < 1920 then some (.d (.str (toString i))) else none
  | _ => none
theorem oStr_ok {K : PySem.W.Frag} : OL K (fun xs H Q => ∃ i, xs = [.int i] ∧ i.natAbs.log2 < 1920 ∧ Q (.str (toString i)) H) oStr := by
  intro φ H μ ws w vs Q c r e k
  unfold oStr at e
  split at e
  · rename_i i
    split at e
    · rename_i hi
      cases e
      obtain ⟨v, rfl, h⟩ := rvs1 r
      cases h
      exact ⟨i, rfl, hi, post_here k c rfl⟩
    · cases e
  · cases e
@[simp] def oRepr (_ : Mu) (ws : List Vw) : Option Vw := match ws with
  | [.d (.bool b)] => some (.d (.str (if b then "True" else "False")))
  | [.d .none] => some (.d (.str "None"))
  | [.d (.int i)] => if i.natAbs.log2 < 1920 then some (.d (.str (toString i))) else none
  | _ => none
def rReprV : List V → Hp → VK → Prop := fun xs H Q => (∃ b, xs = [.bl b] ∧ Q (.str (if b then "True" else "False")) H) ∨ (xs = [.non] ∧ Q (.str "None") H) ∨ (∃ i, xs = [.int i] ∧ i.natAbs.log2 < 1920 ∧ Q (.str (toString i)) H)
theorem call_reprV {X : Cx} : CallR X (.builtin "repr") rReprV := by
  intro pins s σ H xs us Q I r h
  rcases h with ⟨b, rfl, q⟩ | ⟨rfl, q⟩ | ⟨i, rfl, hi, q⟩
  · cases r with
    | cons r rr =>
      cases rr
      cases r
      exact PySem.P.repr_of_bool ⟨.str _, H, I.tok _, ⟨_, rfl⟩, q⟩
  · cases r with
    | cons r rr =>
      cases rr
      cases r
      exact PySem.P.repr_of_none ⟨.str _, H, I.tok _, ⟨_, rfl⟩, q⟩
  · exact SkE.call_repr_int pins s σ H _ us Q I r ⟨i, rfl, hi, q⟩
theorem oRepr_ok {K : PySem.W.Frag} : OL K rReprV oRepr := by
  intro φ H μ ws w vs Q c r e k
  unfold oRepr at e
  split at e
  · rename_i b
    cases e
    obtain ⟨v, rfl, h⟩ := rvs1 r
    cases h
    exact .inl ⟨b, rfl, post_here k c rfl⟩
  · cases e
    obtain ⟨v, rfl, h⟩ := rvs1 r
    cases h
    exact .inr (.inl ⟨rfl, post_here k c rfl⟩)
  · rename_i i
    split at e
    · rename_i hi
      cases e
      obtain ⟨v, rfl, h⟩ := rvs1 r
      cases h
      exact .inr (.inr ⟨i, rfl, hi, post_here k c rfl⟩)
    · cases e
  · cases e
/-! ### short words for the text's makers -/
theorem hu200 {k : Nat} {A : Around} (hr : Room k A) : A.units + 200 < cLine := by have := hr.un; omega
section
variable {X : Cx} {pos : Pos} {K : PySem.W.Frag}
theorem qLt : O2 K (rI0 fun i j => .bl (decide (i < j))) oLt := iiO_ok0 fun _ _ _ _ => rfl
theorem qLe : O2 K (rI0 fun i j => .bl (decide (i ≤ j))) oLe := iiO_ok0 fun _ _ _ _ => rfl
theorem qGt : O2 K (rI0 fun i j => .bl (decide (j < i))) oGt := iiO_ok0 fun _ _ _ _ => rfl
theorem qGe : O2 K (rI0 fun i j => .bl (decide (j ≤ i))) oGe := iiO_ok0 fun _ _ _ _ => rfl
/-- an empty dict -/
theorem ej_dict0 : PE X (.Dict [] [] pos) (tE X.K (eC (.dict []))) := PE.to pe_dnewK fun σ H Q ⟨φ, ρ, μ, w, μ', rs, e, k⟩ => by
  cases e
  exact fun p hp => k φ _ _ (Grow.laid hp) (rs.c.laid hp) (.inl ⟨rfl, p, rfl, rs.c.notin hp, upd_same⟩)
end
end VL
namespace VL
open PySem PySem.Spec PyProof.Rows L2
variable [LawTabs]
/-- more turns than any loop here takes -/
def FUEL : Nat := 2 ^ 20000
@[simp] def sBk (ρ : Rho) (μ : Mu) : Option SR := some (.bk ρ μ)
@[simp] def sCt (ρ : Rho) (μ : Mu) : Option SR := some (.ct ρ μ)
theorem sj_break {X : Cx} {pos : Pos} : PS X (.Break pos) (tS X.K sBk) := PS.to ps_break fun D σ H ⟨φ, ρ, μ, rs, k⟩ => k φ σ H (.refl _ _) rs
theorem sj_cont {X : Cx} {pos : Pos} : PS X (.Continue pos) (tS X.K sCt) := PS.to ps_continue fun D σ H ⟨φ, ρ, μ, rs, k⟩ => k φ σ H (.refl _ _) rs
end VL
namespace VL
open PySem PySem.Spec PyProof.Rows L2
variable [LawTabs]
/-- the law's call, behind the top -/
theorem law_start {K : PySem.W.Frag} {m : FM} {H : Hp} {a : Addr} {ns : List Int} {μ' : Mu} (hT : LamX.Tabs (LawTabs.T K) H) (hS : SqL K H a (ns.map V.int)) (e : m [] [.kl ns] = some (.d (.bool true), μ')) : spM K 1 m [.ref a] H (fun v _ => v = .bl true) fun _ _ _ => False := by
  refine ⟨([], []), [], [.kl ns], .d (.bool true), μ', ⟨List.nodup_nil, rfl, fun n a ds h _ => by simp at h, (fun a h => by cases h), hT⟩, ⟨.ref a, [], rfl, ⟨a, rfl, ?_⟩, rfl⟩, rfl, e, fun φ' v H' g c r => r⟩
  rcases hS with (h | ⟨o, h⟩) | h
  · exact .inr (.inl ⟨by simp [Ph.av], h⟩)
  · exact .inl ⟨o, h⟩
  · exact .inr (.inr h)
end VL
end
section
set_option Elab.async false
set_option linter.all false
set_option maxRecDepth 100000
namespace VL
open PySem PySem.Spec PyProof.Rows L2 HT PyProof
variable [LawTabs]
/-! ### lists of whole numbers -/
@[simp] def toI : List PyData → Option (List Int)
  | [] => some []
  | .int i :: ds => (toI ds).map (i :: ·)
  | _ :: _ => none
theorem toI_da {K : PySem.W.Frag} {A : List Addr} {H : Hp} : ∀ {ds : List PyData} {ns : List Int} {xs : List V}, toI ds = some ns → DaAll K A H ds xs → xs = ns.map V.int
  | [], _, _, e, h => by cases e; exact h
  | d :: ds, _, _, e, ⟨v, vs, ex, h, hs⟩ => by
    cases d with
    | int i =>
      obtain ⟨ms, e1, e2⟩ := Option.map_eq_some_iff.mp e
      subst e2 ex
      rw [toI_da e1 hs]
      cases h
      rfl
    | _ => cases e
theorem reads_ints {h : Heap} : ∀ {ns : List Int} {its : List Value}, Vals (ns.map V.int) its → ReadsAll h its (ns.map PyData.int) []
  | [], _, r => by cases r; exact .nil
  | n :: ns, _, r => by
    cases r with
    | cons r1 r2 =>
      obtain ⟨t, e⟩ := r1
      subst e
      exact ReadsAll.cons (as := []) (bs := []) (.int n t) (reads_ints r2)
theorem alike_ints (ns : List Int) : PySem.W.AlikeAll (ns.map PyData.int) := by
  constructor
  · intro x hx y hy
    obtain ⟨i, _, rfl⟩ := List.mem_map.mp hx
    obtain ⟨j, _, rfl⟩ := List.mem_map.mp hy
    rfl
  · intro x hx
    obtain ⟨i, _, rfl⟩ := List.mem_map.mp hx
    intro z; cases z
theorem depth_ints : ∀ ns : List Int, PyData.depthAll (ns.map PyData.int) ≤ 1
  | [] => by simp [PyData.depthAll]
  | n :: ns => by
    have := depth_ints ns
    rw [List.map_cons, PyData.depthAll, PyData.depth]
    omega
def rMaxV (K : PySem.W.Frag) : List V → Hp → VK → Prop := fun xs H Q => ∃ a n ns, xs = [V.ref a] ∧ (SqL K H a ((n :: ns).map V.int) ∨ SqT K H a ((n :: ns).map V.int)) ∧ Q (.int (ns.foldl max n)) H
theorem cr_maxV {X : Cx} (hc : X.calm = true) (hu : X.A.units + 200 < cLine) : CallR X (.builtin "max") (rMaxV X.K) := by
  intro pins s σ H vs us Q I r h
  obtain ⟨a, n, ns, rfl, hs, q⟩ := h
  rw [Vals.ref1 r]
  have hd := depth_ints (n :: ns)
  have fin : ∀ {its : List Value} (rv : Vals ((n :: ns).map V.int) its) (i : Nat) v h' tk bs, its.toArray[i]? = some v → Reads h' v (PySem.W.maxD (.int n) (ns.map .int)) bs → (∀ b o, s.heap.get? b = some o → h'.get? b = some o) → EP X pins σ Q v { s with heap := h', toks := tk } := fun rv i v h' tk bs _ hr hk => by
    rw [PySem.W.maxD_ints] at hr
    cases hr
    exact ⟨.int _, H, I.kept hk, ⟨_, rfl⟩, q⟩
  rcases hs with hs | hs
  · obtain ⟨its, rv, hl, _⟩ := I.list hs
    exact PySem.W.max_list_data (as := []) (I.ok.hd hc) hl.isList (x := .int n) (xs := ns.map .int) (reads_ints (ns := n :: ns) (by simpa using rv)) (alike_ints (n :: ns)) (by rw [List.map_cons] at hd; omega) (fin rv)
  · obtain ⟨its, rv, hl, _⟩ := I.tuple hs
    exact PySem.W.max_tuple_data (as := []) (I.ok.hd hc) (show s.heap.IsTuple a its.toArray from hl) (x := .int n) (xs := ns.map .int) (reads_ints (ns := n :: ns) (by simpa using rv)) (alike_ints (n :: ns)) (by rw [List.map_cons] at hd; omega) (fin rv)
def toLT (μ : Mu) (w : Vw) : Option (List PyData) := match w with
  | .d (.tuple ds) => some ds
  | w => toL μ w
@[simp] def oMaxV (μ : Mu) (ws : List Vw) : Option Vw := match ws with
  | [.d (.tuple ds)] => (match toI ds with
    | some (n :: ns) => some (.d (.int (ns.foldl max n)))
    | _ => none)
  | [w] => (match (toL μ w).bind toI with
    | some (n :: ns) => some (.d (.int (ns.foldl max n)))
    | _ => none)
  | _ => none
theorem oMaxV_ok {K : PySem.W.Frag} : OL K (rMaxV K) oMaxV := by
  intro φ H μ ws w vs Q c r e k
  unfold oMaxV at e
  split at e
  · rename_i ds
    obtain ⟨v, rfl, r1⟩ := rvs1 r
    split at e
    · rename_i n ns e1
      cases e
      obtain ⟨a, xs, rfl, h1, h2⟩ := r1
      rw [toI_da e1 h2] at h1
      exact ⟨a, n, ns, rfl, .inr h1, post_here k c rfl⟩
    · cases e
  · rename_i z _
    obtain ⟨v, rfl, r1⟩ := rvs1 r
    split at e
    · rename_i n ns e1
      cases e
      obtain ⟨ds, e2, e3⟩ := Option.bind_eq_some_iff.mp e1
      obtain ⟨a, xs, rfl, h1, h2⟩ := toL_ok c r1 e2
      rw [toI_da e3 h2] at h1
      exact ⟨a, n, ns, rfl, .inl h1, post_here k c rfl⟩
    · cases e
  · cases e
@[simp] def oSum (μ : Mu) (ws : List Vw) : Option Vw := match ws with
  | [w] => ((toL μ w).bind toI).map fun ns => .d (.int ns.sum)
  | _ => none
theorem oSum_ok {K : PySem.W.Frag} : OL K (rSum K) oSum := by
  intro φ H μ ws w vs Q c r e k
  unfold oSum at e
  split at e
  · rename_i z
    obtain ⟨v, rfl, r1⟩ := rvs1 r
    obtain ⟨ns, e1, e4⟩ := Option.map_eq_some_iff.mp e
    cases e4
    obtain ⟨ds, e2, e3⟩ := Option.bind_eq_some_iff.mp e1
    obtain ⟨a, xs, rfl, h1, h2⟩ := toL_ok c r1 e2
    rw [toI_da e3 h2] at h1
    exact ⟨a, ns, rfl, h1, post_here k c rfl⟩
  · cases e
/-! ### a range as a value -/
theorem cr_range1 {X : Cx} : CallR X (.type "range") (fun vs H Q => ∃ i, vs = [V.int i] ∧ ∀ p, H p = none → Q (.ref p) (upd H p (.rng 0 i))) := by
  intro pins s σ H vs us Q I r h
  obtain ⟨i, rfl, q⟩ := h
  cases r with
  | cons r1 r2 =>
    cases r2
    obtain ⟨t, rfl⟩ := r1
    refine call_range_1 ⟨.ref s.heap.objs.size, upd H s.heap.objs.size (.rng 0 i), I.laid (t' := s.toks + 2) (fun b o e => Heap.get?_push_of_some _ e) (Nat.le_refl _) ?_, rfl, q _ (I.hok.fresh (Nat.le_refl _))⟩
    exact ⟨_, _, _, Heap.get?_push_size _ rfl⟩
@[simp] def oRange (_ : Mu) (ws : List Vw) : Option Vw := match ws with
  | [.d (.int i)] => some (.rg 0 i)
  | _ => none
theorem oRange_ok {K : PySem.W.Frag} : OL K (fun vs H Q => ∃ i, vs = [V.int i] ∧ ∀ p, H p = none → Q (.ref p) (upd H p (.rng 0 i))) oRange := by
  intro φ H μ ws w vs Q c r e k
  unfold oRange at e
  split at e
  · rename_i i
    cases e
    obtain ⟨v, rfl, r1⟩ := rvs1 r
    cases r1
    exact ⟨i, rfl, fun p hp => k φ _ _ (Grow.laid hp) (c.laid hp) ⟨p, rfl, upd_same⟩⟩
  · cases e
theorem pi_rgv {X : Cx} {tg l : Expr} {tl : TE} (hl : PE X l tl) : PI X tg l (fun σ H R => tl σ H fun x H1 => ∃ a lo hi, x = .ref a ∧ H1 a = some (.rng lo hi) ∧ (-(2 ^ 62) ≤ lo ∧ lo < 2 ^ 62 ∧ -(2 ^ 62) ≤ hi ∧ hi < 2 ^ 62) ∧ R (Itr lo (hi - lo).toNat) H1) := by
  refine ⟨fun pins s σ H R I h => ?_⟩
  refine thn (hl.run pins s σ H _ I h) fun v s1 ⟨x, H1, I1, r1, q1⟩ => ?_
  obtain ⟨a, lo, hi, e, hq, ⟨h1, h2, h3, h4⟩, q⟩ := q1
  subst e
  cases r1
  obtain ⟨t, u, vv, ho⟩ := I1.hok a _ hq
  refine wpAny_pyIter_range (show IsRange s1.heap a lo hi 1 t u vv from ho) (small_one h1 h2 h3 h4) ?_
  refine ⟨s1.heap.objs.size, [s1.heap.objs.size], _, _, H1, rfl, I1.kept (t' := s1.toks) fun b o e => Heap.get?_push_of_some _ e, turn_range _ lo (hi - lo).toNat, ?_, fun b hb => ?_, q⟩
  · have e1 : lo + ((0 : Nat) : Int) * 1 = lo := by simp
    have e2 : (((hi - lo).toNat : Nat) : Int) - ((0 : Nat) : Int) = Builtin.Range.rangeSize lo hi 1 := by rw [rangeSize_one]; split <;> omega
    show IsRangeIter _ _ (lo + ((0 : Nat) : Int) * 1) ((((hi - lo).toNat : Nat) : Int) - ((0 : Nat) : Int)) 1
    rw [e1, e2]
    exact Heap.get?_push_size _ rfl
  · have e : b = s1.heap.objs.size := by simpa using hb
    subst e
    exact I1.fpOk (Nat.le_refl _) (I1.hok.fresh (Nat.le_refl _))
open Classical in
@[simp] noncomputable def iRgv (f : EF) (ρ : Rho) (μ : Mu) : Option (List PyData × Option Nat × Mu) := match f ρ μ with
  | some (.rg lo hi, μ1) => if rgOk lo hi then some (rngD lo (hi - lo).toNat, none, μ1) else none
  | _ => none
theorem ij_rgv {X : Cx} {tg l : Expr} {f : EF} (h : PE X l (tE X.K f)) : PI X tg l (tI X.K (iRgv f)) := ⟨fun pins s σ H R I q => by
  obtain ⟨φ, ρ, μ, ds, src, μ', rs, e, k⟩ := q
  unfold iRgv at e
  split at e
  · rename_i lo hi μ1 e1
    split at e
    · rename_i hb
      cases e
      refine (pi_rgv h).run pins s σ H R I ⟨φ, ρ, μ, _, _, rs, e1, fun φ1 v H1 g1 c1 r1 => ?_⟩
      obtain ⟨a, e2, h1⟩ := r1
      exact ⟨a, lo, hi, e2, h1, hb, k φ1 _ H1 g1 c1 wk_rng⟩
    · cases e
  · cases e⟩
/-! ### xs[::-1] -/
theorem adjust_rev (n : Nat) : Builtin.Slice.sliceAdjust none none (-1) (n : Int) = ((n : Int) - 1, -1) := rfl
theorem places_rev (n : Nat) : Builtin.Slice.slicePlaces ((n : Int) - 1) (-1) (-1) = n := by
  unfold Builtin.Slice.slicePlaces
  rw [if_neg (by decide)]
  by_cases h : n = 0
  · subst h; rfl
  · rw [if_pos (by omega)]
    have : ((n : Int) - 1 - -1 - 1) / (- -1) + 1 = n := by
      have : (- -1 : Int) = 1 := rfl
      rw [this, Int.ediv_one]; omega
    rw [this]; rfl
theorem pick_rev (xs : Array Value) : ((List.range xs.size).filterMap fun (m : Nat) => xs[((xs.size : Int) - 1 + (m : Int) * -1).toNat]?).toArray = xs.toList.reverse.toArray := by
  have e : ∀ n, n ≤ xs.size → (List.range n).filterMap (fun (m : Nat) => xs[((xs.size : Int) - 1 + (m : Int) * -1).toNat]?) = (xs.toList.reverse).take n := by
    intro n hn
    induction n with
    | zero => rfl
    | succ n ih =>
      have e1 : ((xs.size : Int) - 1 + (n : Int) * -1).toNat = xs.size - 1 - n := by omega
      have e2 : xs.toList.reverse[n]? = xs[xs.size - 1 - n]? := by
        rw [List.getElem?_reverse (by rw [Array.length_toList]; omega), Array.length_toList, Array.getElem?_toList]
      have e3 : n < xs.toList.reverse.length := by rw [List.length_reverse, Array.length_toList]; omega
      rw [List.range_succ, List.filterMap_append, ih (by omega), List.take_succ, e2]
      simp only [List.filterMap_cons, List.filterMap_nil, e1]
      cases xs[xs.size - 1 - n]? <;> rfl
  have := e xs.size (Nat.le_refl _)
  rw [this, List.take_of_length_le (by rw [List.length_reverse, Array.length_toList]; exact Nat.le_refl _)]
section
variable {prog : Program} {w : World} {A : Around} {E : Value → Shared → Prop} {s : Shared}
theorem sliceApplied_rev {sl : Addr} {vl vu vs : Value} {n : Nat} {Q : Int × Int × Nat → Shared → Prop} (hs : s.heap.IsSliceOf sl vl vu vs) (pl : IsPart vl none) (pu : IsPart vu none) (ps : IsPart vs (some (-1)))
    (h : Q ((n : Int) - 1, -1, n) s) : wpAny (model prog w) A (Builtin.Slice.sliceApplied (.ref sl) (pure (n : Int))) Q E s := by
  obtain ⟨os, hos, hcs, hds⟩ := id hs
  unfold Builtin.Slice.sliceApplied Builtin.Slice.sliceFields
  refine wpAny_bind (wpAny_bind (wpAny_field hos hds (x := vl) rfl (wpAny_bind (wpAny_field hos hds (x := vu) rfl (wpAny_bind (wpAny_field hos hds (x := vs) rfl (wpAny_pure ?_)))))))
  refine wpAny_bind (slicePart_ ps ?_)
  show wpAny _ _ (if ((-1 : Int) == 0) = true then _ else _) _ _ s
  rw [if_neg (by decide)]
  refine wpAny_bind (slicePart_ pl (wpAny_bind (slicePart_ pu (wpAny_bind (wpAny_pure ?_)))))
  show wpAny _ _ (match Builtin.Slice.sliceAdjust none none (-1) (n : Int) with | (lo, hi) => pure (lo, (-1 : Int), Builtin.Slice.slicePlaces lo hi (-1))) _ _ s
  rw [adjust_rev n]
  show wpAny _ _ (pure ((n : Int) - 1, (-1 : Int), Builtin.Slice.slicePlaces ((n : Int) - 1) (-1) (-1))) _ _ s
  rw [places_rev]
  exact wpAny_pure h
theorem tup_rev {t sl : Addr} {items : Array Value} {vl vu vs : Value} {Q : Value → Shared → Prop} (ht : IsTup s.heap t items) (hs : s.heap.IsSliceOf sl vl vu vs) (pl : IsPart vl none) (pu : IsPart vu none) (ps : IsPart vs (some (-1)))
    (h : Q (.ref s.heap.objs.size) { s with heap := s.heap.push { cls := .type "tuple", data := .seq items.toList.reverse.toArray } })
    (hsz : items.size ≤ sizeLine) : wpAny (model prog w) A (getItem (.ref t) (.ref sl)) Q E s := by
  have htake : sizeOk (.seq items.toList.reverse.toArray) := by
    show items.toList.reverse.toArray.size ≤ sizeLine
    rw [List.size_toArray, List.length_reverse, Array.length_toList]
    exact hsz
  obtain ⟨os, hos, hcs, hds⟩ := id hs
  have hTs : s.TypeIs (.ref sl) "slice" := ⟨os, hos, hcs⟩
  unfold getItem
  try with_reducible refine wpAny_holding ?_
  first | refine wpAny_bind (wpAny_pure ?_) | skip
  refine wpAny_bind (wpAny_sequenceKey ht.typeIs (by decide) ?_)
  refine wpAny_bind (wpAny_callSpecial?_slot (name := Str.ofString "__getitem__") ht.typeIs PyProof.Rows.slot_tuple_getitem
    (wpAny_call_entry PyProof.Rows.slot_tuple_getitem ht.typeIs entry_tuple_getitem ?_ (args_tuple_getitem _ _)))
  show wpAny _ _ (Builtin.Tuple.tupleItemsOf (.ref t) >>= _) _ _ s
  refine wpAny_bind (tupleItemsOf_ ht ?_)
  refine wpAny_bind (wpAny_typeOf hTs ?_)
  rw [if_pos (by decide)]
  refine wpAny_bind (sliceApplied_rev hs pl pu ps ?_)
  have hno : ¬ ((((items.size : Int) - 1) == 0 && (-1 : Int) == 1 && items.size == items.size) = true) := by simp
  show wpAny _ _ (if (((items.size : Int) - 1) == 0 && (-1 : Int) == 1 && items.size == items.size) = true then _ else _) _ _ s
  rw [if_neg hno, pick_rev]
  first
    | exact wpAny_bind (m := Builtin.Tuple.tupleExact _) (wpAny_newObj_type (wpAny_pure ⟨_, rfl, wpAny_pure h⟩) htake)
    | exact wpAny_bind (m := Builtin.Tuple.tupleExact _) (wpAny_newObj_type (wpAny_bind (wpAny_pure (wpAny_pure ⟨_, rfl, wpAny_pure h⟩))) htake)
    | exact wpAny_bind (wpAny_bind (m := Builtin.Tuple.tupleExact _) (wpAny_newObj_type (wpAny_pure (wpAny_pure ⟨_, rfl, wpAny_pure h⟩)) htake))
    | exact wpAny_bind (wpAny_bind (m := Builtin.Tuple.tupleExact _) (wpAny_newObj_type (wpAny_pure ⟨_, rfl, wpAny_pure h⟩) htake))
end
def tRevV (K : PySem.W.Frag) (te : TE) : TE := fun σ H Q => te σ H fun x H1 => ∃ a xs, x = .ref a ∧ ((SqL K H1 a xs ∧ ∀ p, H1 p = none → Q (.ref p) (upd H1 p (.lst xs.reverse))) ∨ (SqT K H1 a xs ∧ ∀ p, H1 p = none → Q (.ref p) (upd H1 p (.tup xs.reverse))))
theorem pe_revV {X : Cx} {e : Expr} {te : TE} {k : Nat} {p1 p2 p3 pos : Pos} (he : PE X e te) : PE X (.Subscript e (.Slice none none (some (.UnaryOp .USub (.Constant (.int 1) k p1) p2)) p3) pos) (tRevV X.K te) := by
  refine ⟨fun pins s σ H Q I h => ?_⟩
  refine Subscript_ (thn (he.run pins s σ H _ I h) fun v s1 ⟨x, H1, I1, r1, q1⟩ => ?_)
  obtain ⟨a, xs, ex, q⟩ := q1
  subst ex
  cases r1
  have hst : PO X (some (.UnaryOp .USub (.Constant (.int 1) k p1) p2)) (tPart (tUn (rU fun i => .int (-i)) (tC (.int 1)))) := po_some (pe_un un_neg pe_int)
  refine wpAny_Slice (thn (po_none.run pins s1 σ H1 (fun o H2 => o = none ∧ H2 = H1) I1 ⟨rfl, rfl⟩) fun vl s2 ⟨l, H2, I2, pl, el, e2⟩ => ?_)
  subst el e2
  refine thn (po_none.run pins s2 σ H2 (fun o H3 => o = none ∧ H3 = H2) I2 ⟨rfl, rfl⟩) fun vu s3 ⟨u, H3, I3, pu, eu, e3⟩ => ?_
  subst eu e3
  refine thn (hst.run pins s3 σ H3 (fun o H4 => o = some (-1) ∧ H4 = H3) I3 ⟨1, rfl, -1, rfl, rfl, rfl⟩) fun vs s4 ⟨o, H4, I4, ps, eo, e4⟩ => ?_
  subst eo e4
  have I5 : L2.Inv X pins σ H4 { s4 with heap := s4.heap.push { cls := .type "slice", data := .fields #[vl, vu, vs] } } := I4.kept (t' := s4.toks) fun b ob q => Heap.get?_push_of_some _ q
  show wpAny (model X.prog X.w) X.A (subscriptTail e (.Slice none none (some (.UnaryOp .USub (.Constant (.int 1) k p1) p2)) p3) (.ref a) (.ref s4.heap.objs.size)) (EP X pins σ Q) X.xe { s4 with heap := s4.heap.push { cls := .type "slice", data := .fields #[vl, vu, vs] } }
  rcases q with ⟨hx, q⟩ | ⟨hx, q⟩
  · obtain ⟨its, r, ht, hz⟩ := I5.list hx
    have hlen := r.length
    refine tail_any (ops := [.ref a, .ref s4.heap.objs.size]) ht.isList.typeIs (PySem.slot_list_getitem.lookup) ?_ (by with_unfolding_all rfl)
    refine wpAny_getItem_list_slice ht.isList (Heap.IsSliceOf.new _ vl vu vs) pl pu ps (by decide) ?_ (by rw [List.size_toArray]; omega)
    rw [PySem.W.krv_pick]
    refine ⟨.ref _, _, I5.laid (t' := s4.toks) (o := .lst xs.reverse) (fun b ob q => Heap.get?_push_of_some _ q) (Nat.le_refl _) ?_, rfl, q _ (I5.hok.fresh (Nat.le_refl _))⟩
    exact ⟨by rw [List.length_reverse]; exact hz, _, 0, r.reverse, Heap.get?_push_size _ rfl⟩
  · obtain ⟨its, r, ht, hz⟩ := I5.tuple hx
    have hlen := r.length
    refine tail_any (ops := [.ref a, .ref s4.heap.objs.size]) ht.typeIs (PyProof.Rows.slot_tuple_getitem.lookup) ?_ (by with_unfolding_all rfl)
    refine tup_rev ht (Heap.IsSliceOf.new _ vl vu vs) pl pu ps ?_ (by rw [List.size_toArray]; omega)
    refine ⟨.ref _, _, I5.laid (t' := s4.toks) (o := .tup xs.reverse) (fun b ob q => Heap.get?_push_of_some _ q) (Nat.le_refl _) ?_, rfl, q _ (I5.hok.fresh (Nat.le_refl _))⟩
    exact ⟨by rw [List.length_reverse]; exact hz, _, r.reverse, IsTup.new _ _⟩
@[simp] def oRevS (μ : Mu) (w : Vw) : Option Vw := match w with
  | .d (.tuple ds) => some (.d (.tuple ds.reverse))
  | w => (toL μ w).map fun ds => .d (.list ds.reverse)
theorem DaAll.reverse {K : PySem.W.Frag} {A : List Addr} {H : Hp} : ∀ {ds : List PyData} {xs : List V}, DaAll K A H ds xs → DaAll K A H ds.reverse xs.reverse
  | [], _, h => by rw [show _ = _ from h]; rfl
  | d :: ds, _, ⟨v, vs, e, h, hs⟩ => by
    rw [e, List.reverse_cons, List.reverse_cons]
    exact DaAll.append (DaAll.reverse hs) ⟨v, [], rfl, h, rfl⟩
theorem ej_rev {X : Cx} {e : Expr} {f : EF} {k : Nat} {p1 p2 p3 pos : Pos} (he : PE X e (tE X.K f)) : PE X (.Subscript e (.Slice none none (some (.UnaryOp .USub (.Constant (.int 1) k p1) p2)) p3) pos) (tE X.K (eB1 oRevS f)) := PE.to (pe_revV he) fun σ H Q ⟨φ, ρ, μ, w, μ', rs, e, k⟩ => by
  unfold eB1 at e
  split at e
  · rename_i z μ1 e1
    obtain ⟨u, e2, e3⟩ := Option.map_eq_some_iff.mp e
    cases e3
    refine ⟨φ, ρ, μ, z, _, rs, e1, fun φ1 v H1 g1 c1 r1 => ?_⟩
    unfold oRevS at e2
    split at e2
    · cases e2
      obtain ⟨a, xs, rfl, h1, h2⟩ := r1
      exact ⟨a, xs, rfl, .inr ⟨h1, new_tup c1 (DaAll.reverse h2) fun φ4 v4 H4 g4 c4 r4 => k φ4 v4 H4 (g1.trans g4) c4 r4⟩⟩
    · obtain ⟨ds, e5, e6⟩ := Option.map_eq_some_iff.mp e2
      cases e6
      obtain ⟨a, xs, rfl, h1, h2⟩ := toL_ok c1 r1 e5
      exact ⟨a, xs, rfl, .inl ⟨h1, new_lst c1 (DaAll.reverse h2) fun φ4 v4 H4 g4 c4 r4 => k φ4 v4 H4 (g1.trans g4) c4 r4⟩⟩
  · cases e
/-! ### a list, a tuple times an int -/
theorem da_rep {K : PySem.W.Frag} {A : List Addr} {H : Hp} {ds : List PyData} {xs : List V} (h : DaAll K A H ds xs) : ∀ n : Nat, DaAll K A H (List.replicate n ds).flatten (List.replicate n xs).flatten
  | 0 => rfl
  | n + 1 => by
    rw [List.replicate_succ, List.replicate_succ, List.flatten_cons, List.flatten_cons]
    exact DaAll.append h (da_rep h n)
def repOk (ds : List PyData) (k : Int) : Bool := decide (ds ≠ [] ∧ 2 ≤ k ∧ k ≤ 1000 ∧ ds.length ≤ 1000)
@[simp] def oRep (μ : Mu) (x y : Vw) : Option Vw := match x, y with
  | .d (.tuple ds), .d (.int k) => if 2 ≤ k ∧ k ≤ 1000 ∧ 0 < ds.length ∧ ds.length ≤ 1000 then some (.d (.tuple (List.replicate k.toNat ds).flatten)) else none
  | x, .d (.int k) => (toLm μ x).bind fun ds => if k ≤ 1000000 ∧ -1000000 ≤ k ∧ ds.length * k.toNat ≤ 1000000 then some (.d (.list (List.replicate k.toNat ds).flatten)) else none
  | _, _ => none
theorem oRep_ok {K : PySem.W.Frag} : O2 K (fun x y H Q => rRepT K x y H Q ∨ rRep x y H Q) oRep := by
  intro φ H μ x y w u v Q c rx ry e k
  unfold oRep at e
  split at e
  · rename_i ds i
    split at e
    · rename_i h
      cases e
      obtain ⟨a, xs, rfl, h1, h2⟩ := rx
      cases ry
      have hl := h2.len
      exact .inl ⟨a, i, xs, rfl, rfl, h1, fun z => by rw [z] at hl; simp at hl; rw [hl] at h; simp at h, h.1, h.2.1, by rw [← hl]; exact h.2.2.2, new_tup c (da_rep h2 _) k⟩
    · cases e
  · rename_i i _
    obtain ⟨ds, e1, e2⟩ := Option.bind_eq_some_iff.mp e
    split at e2
    · rename_i h
      cases e2
      obtain ⟨a, xs, rfl, h1, h2⟩ := toLm_ok c rx e1
      cases ry
      exact .inr ⟨a, i, xs, rfl, rfl, h1, by omega, by omega, by rw [← h2.len]; exact size_ok h.2.2, new_lst c (da_rep h2 _) k⟩
    · cases e2
  · cases e
theorem ej_rep {X : Cx} {a b : Expr} {pos : Pos} {f g : EF} (ha : PE X a (tE X.K f)) (hb : PE X b (tE X.K g)) : PE X (.BinOp a .Mult b pos) (tE X.K (eB2 oRep f g)) := ej_op (OpR.or op_repT op_rep) oRep_ok ha hb
/-! ### a comprehension within a comprehension -/
theorem lookup_re {f : Str × NameKind → Str × NameKind} (hf : ∀ p, (f p).1 = p.1 ∧ (p.2 = .cell ∨ p.2 = .free → (f p).2 = .cell ∨ (f p).2 = .free)) : ∀ {names : List (Str × NameKind)} {x : Str}, names.lookup x = some .cell ∨ names.lookup x = some .free → (names.map f).lookup x = some .cell ∨ (names.map f).lookup x = some .free
  | [], _, h => by simp at h
  | p :: r, x, h => by
    obtain ⟨h1, h2⟩ := hf p
    obtain ⟨n, k⟩ := p
    rw [List.map_cons]
    generalize hz : f (n, k) = z at *
    obtain ⟨n', k'⟩ := z
    have h1' : n' = n := h1
    subst h1'
    by_cases e : x = n'
    · subst e
      have l1 : ∀ (k : NameKind) (r : List (Str × NameKind)), List.lookup x ((x, k) :: r) = some k := fun k r => by simp [List.lookup_cons]
      rw [l1] at h
      rw [l1]
      have : k = .cell ∨ k = .free := h.elim (fun z => .inl (Option.some.inj z)) fun z => .inr (Option.some.inj z)
      rcases h2 this with q | q
      · left; rw [show k' = .cell from q]
      · right; rw [show k' = .free from q]
    · have e' : (x == n') = false := by simpa using e
      have l2 : ∀ (k : NameKind) (r : List (Str × NameKind)), List.lookup x ((n', k) :: r) = List.lookup x r := fun k r => by simp only [List.lookup_cons, e']
      rw [l2] at h
      rw [l2]
      exact lookup_re hf h
theorem lookup_relabel {env : Env} {sc : Scope} {x : Str} (h : sc.names.lookup x = some .cell ∨ sc.names.lookup x = some .free) : (relabel sc env).names.lookup x = some .cell ∨ (relabel sc env).names.lookup x = some .free := by
  refine lookup_re (fun p => ?_) h
  obtain ⟨n, k⟩ := p
  by_cases c : (k == NameKind.free && env.scope.kind == .function && env.kindOf n == some .cell) = true
  · constructor
    · show (if _ then _ else _ : Str × NameKind).1 = _
      rw [if_pos c]
    · intro _; left
      show (if _ then _ else _ : Str × NameKind).2 = _
      rw [if_pos c]
  · constructor
    · show (if _ then _ else _ : Str × NameKind).1 = _
      rw [if_neg c]
    · intro h
      have e : (if (k == NameKind.free && env.scope.kind == .function && env.kindOf n == some .cell) = true then (n, NameKind.cell) else (n, k)) = (n, k) := if_neg c
      show (if (k == NameKind.free && env.scope.kind == .function && env.kindOf n == some .cell) = true then (n, NameKind.cell) else (n, k)).2 = _ ∨ (if (k == NameKind.free && env.scope.kind == .function && env.kindOf n == some .cell) = true then (n, NameKind.cell) else (n, k)).2 = _
      rw [e]; exact h
theorem blk_in {N : List Str} {sc scope : Scope} {env : Env} {own : List (Str × Nat)} (h : blkC N sc scope own = true) : BlkOk N (relabel sc env) scope own := by
  have b := blkOk_by h
  exact ⟨b.kind, b.uniq, b.ix, fun y hy e => lookup_relabel (b.free y hy e), b.own⟩
@[simp] def sPar3 (i j l : Nat) (f : AF) (ρ : Rho) (μ : Mu) : Option SR := match f ρ μ with
  | some ([v, w, u], μ1) => some (.nx (((ρ.set i (some v)).set j (some w)).set l (some u)) μ1)
  | _ => none
theorem sj_par3 {X : Cx} {i j l : Nat} {x y z : Str} {a b c : Expr} {f : AF} {px py pz pt pos : Pos} {kt k2 pt2} (hc : X.calm = true) (hN : X.N.Nodup) (hij : i ≠ j) (hil : i ≠ l) (hjl : j ≠ l) (ha : PA X [a, b, c] (tA X.K f)) (hi : X.N[i]? = some x := by rfl) (hj : X.N[j]? = some y := by rfl) (hl : X.N[l]? = some z := by rfl)
    (hx : X.env.scope.names.lookup x = some .local := by rfl) (hy : X.env.scope.names.lookup y = some .local := by rfl) (hz : X.env.scope.names.lookup z = some .local := by rfl)
    (hw : swappedStores [.Tuple [.Name x px, .Name y py, .Name z pz] kt pt] (.Tuple [a, b, c] k2 pt2) X.env = pure (some [x, y, z]) := by rfl)
    (hs : swapsWithSole [.Tuple [.Name x px, .Name y py, .Name z pz] kt pt] (.Tuple [a, b, c] k2 pt2) pos.line X.env = pure false := by rfl) :
    PS X (.Assign [.Tuple [.Name x px, .Name y py, .Name z pz] kt pt] (.Tuple [a, b, c] k2 pt2) pos) (tS X.K (sPar3 i j l f)) := PS.to (ps_par3 hc hN hi hj hl hij hil hjl hx hy hz ha hw hs) fun D σ H ⟨φ, ρ, μ, rs, k⟩ => by
  unfold sPar3 at k
  split at k
  · rename_i v w u μ1 e1
    refine ⟨φ, ρ, μ, _, μ1, rs, e1, fun φ1 vs H1 g1 c1 r1 => ?_⟩
    obtain ⟨u1, r, e2, h1, u2, r', e3, h2, u3, r'', e4, h3, e5⟩ := r1
    subst e2 e3 e4
    have e6 : r'' = [] := e5
    subst e6
    exact ⟨u1, u2, u3, rfl, k φ1 _ H1 g1 ((((rs.step g1 c1).put h1).put h2).put h3)⟩
  · exact k.elim
/-- a call that is not made -/
theorem ssj_never {X : Cx} {sts : List Stmt} : PSs X sts (tS X.K sNever) := ⟨fun pins s σ H D I ⟨φ, ρ, μ, rs, k⟩ => k.elim⟩
/-! ### a changed list walked from behind -/
def WkR (K : PySem.W.Frag) (φ : Ph) (H : Hp) (n : Nat) (all ds : List PyData) (J : It) : Prop := ∀ (φ' : Ph) (H' : Hp) (μ' : Mu), GrowW φ φ' H H' → Cells K φ' H' μ' → μ'[n]? = some all → ∀ i : Nat,
  (∀ d, ds[i]? = some d → J.go i H' ∧ ∀ x H'', J.yld i H' x H'' → Grow φ' φ' H' H'' ∧ Cells K φ' H'' μ' ∧ Da K φ'.av H'' d x) ∧ (ds.length ≤ i → J.stop i H')
def tIR (K : PySem.W.Frag) (fe : EF) : TI := fun σ H R => ∃ φ ρ μ n all μ', RS K φ σ H ρ μ ∧ fe ρ μ = some (.loc n, μ') ∧ μ'[n]? = some all ∧ ∀ φ' J H', Grow φ φ' H H' → Cells K φ' H' μ' → WkR K φ' H' n all all.reverse J → R J H'
@[simp] noncomputable def sForR (fe : EF) (t : TF) (body : SF) (ρ : Rho) (μ : Mu) : Option SR := match fe ρ μ with
  | some (.loc n, μ1) => (match μ1[n]? with
    | some all => forM t body (some n) all all.reverse ρ μ1
    | none => none)
  | _ => none
theorem ij_revR {X : Cx} {tg e : Expr} {f : EF} {p pos : Pos} (hm : X.mg "reversed" = none) (he : PE X e (tE X.K f)) (hg : Gl X "reversed" := by rfl) (hs : starEach [e] X.env = (false, eval e X.env) :: starEach [] X.env := by rfl) : PI X tg (.Call (.Name "reversed" p) [e] [] pos) (tIR X.K f) :=
  PI.to (RT.pi_revA hg hm he hs) fun σ H R ⟨φ, ρ, μ, n, all, μ', rs, e1, e0, k⟩ => by
  refine ⟨φ, ρ, μ, _, _, rs, e1, fun φ1 v H1 g1 c1 r1 => ?_⟩
  obtain ⟨a, h1, h2⟩ := id r1
  obtain ⟨xs, h3, h4⟩ := c1.at_ n a all h1 e0
  refine ⟨a, xs, h2, .inl ⟨SqL.of h3, k φ1 _ H1 g1 c1 fun φ' H' μ2 g c hs i => ?_⟩⟩
  obtain ⟨b, h5, h6⟩ := RV.step g _ _ r1
  rw [h2] at h6; cases h6
  obtain ⟨ys, h1', h2'⟩ := c.at_ n a all h5 hs
  have ll : xs.length = ys.length := by rw [← h4.len, h2'.len]
  refine ⟨fun d e => ?_, fun hl => by
    show xs.length ≤ i
    rw [List.length_reverse] at hl
    rw [← h4.len]; exact hl⟩
  obtain ⟨hl, e3⟩ := rev_get e
  obtain ⟨z, e4, e5⟩ := h2'.get e3
  rw [h4.len] at e4
  refine ⟨⟨by rw [← h4.len]; exact hl, ys, z, SqL.of h1', e4⟩, fun x H'' hy => ?_⟩
  obtain ⟨rfl, hy⟩ := hy
  have := hy ys (SqL.of h1')
  rw [e4] at this; cases this
  exact ⟨.refl _ _, c, e5⟩
theorem sj_forR {X : Cx} {tg iter : Expr} {body : List Stmt} {fe : EF} {t : TF} {vs : List Nat} {g : SF} {pos : Pos} (hp : PassesOwn (model X.prog X.w) X.A X.env X.xe) (hc : X.calm = true) (hi : PI X tg iter (tIR X.K fe)) (hg : PG X tg (tG X.K t vs)) (hb : PSs X body (tS X.K g))
    (hs : ∀ x, foldedSetIterable iter X.env x = pure x := by intro _; rfl) : PS X (.For tg iter body [] pos) (tS X.K (sForR fe t g)) := PS.to (ps_for hp hc hi hg hb hs) fun D σ H ⟨φ, ρ, μ, rs, k⟩ => by
  unfold sForR at k
  split at k
  · rename_i n μ1 e1
    split at k
    · rename_i all e0
      refine ⟨φ, ρ, μ, n, all, μ1, rs, e1, e0, fun φ1 J H1 g1 c1 wk => ?_⟩
      generalize hds : all.reverse = ds at *
      refine ⟨fun i m σ' H' => m = ds.length - i ∧ ∃ φ2 ρ2 μ2, Grow φ1 φ2 H1 H' ∧ RS X.K φ2 σ' H' ρ2 μ2 ∧ SPost X.K φ2 H' D (forM t g (some n) all (ds.drop i) ρ2 μ2), ⟨_, rfl, φ1, ρ, μ1, .refl _ _, rs.step g1 c1, SPost.grow g1 k⟩, ?_⟩
      rintro i m σ2 H2 ⟨rfl, φ2, ρ2, μ2, g2, rs2, k2⟩
      cases hdi : ds.drop i with
      | nil =>
        rw [hdi] at k2
        unfold forM at k2
        split at k2
        · rename_i hsrc
          have hl : ds.length ≤ i := List.drop_eq_nil_iff.mp hdi
          exact .inl ⟨(wk φ2 H2 μ2 g2 rs2.c (hsrc n rfl) i).2 hl, k2 φ2 σ2 H2 (.refl _ _) rs2⟩
        · exact k2.elim
      | cons d r =>
        rw [hdi] at k2
        have hil : i < ds.length := by
          by_cases z : i < ds.length
          · exact z
          · rw [List.drop_eq_nil_iff.mpr (by omega)] at hdi; cases hdi
        have hdg : ds[i]? = some d := by
          have := List.getElem?_drop (xs := ds) (i := i) (j := 0)
          rw [hdi] at this
          simpa using this.symm
        have hdr : ds.drop (i + 1) = r := by
          have : (ds.drop i).drop 1 = ds.drop (i + 1) := by rw [List.drop_drop]
          rw [← this, hdi]; rfl
        unfold forM at k2
        split at k2
        · rename_i hsrc
          obtain ⟨go, hy⟩ := (wk φ2 H2 μ2 g2 rs2.c (hsrc n rfl) i).1 d hdg
          refine .inr ⟨go, fun σ' H' => ∃ φ3 ρ3 μ3, Grow φ1 φ3 H1 H' ∧ RS X.K φ3 σ' H' ρ3 μ3 ∧ SPost X.K φ3 H' D (forM t g (some n) all (ds.drop (i + 1)) ρ3 μ3), fun σ' H' hN => ⟨ds.length - (i + 1), by omega, rfl, hN⟩, fun x H3 hyl => ?_⟩
          obtain ⟨g3, c3, hx⟩ := hy x H3 hyl
          have rs3 := rs2.step g3 c3
          split at k2
          · exact k2.elim
          · rename_i ρ3 e3
            refine ⟨φ2, ρ2, μ2, .d d, ρ3, rs3, hx, e3, fun σ4 rs4 _ => ⟨φ2, ρ3, μ2, rs4, ?_⟩⟩
            rw [hdr]
            have k3 := SPost.grow g3 k2
            cases eb : g ρ3 μ2 with
            | none => rw [eb] at k3; exact k3
            | some z =>
              rw [eb] at k3
              cases z with
              | nx ρ5 μ5 => exact fun φ5 σ5 H5 g5 r5 => ⟨φ5, ρ5, μ5, (g2.trans g3).trans g5, r5, SPost.grow g5 k3⟩
              | ct ρ5 μ5 => exact fun φ5 σ5 H5 g5 r5 => ⟨φ5, ρ5, μ5, (g2.trans g3).trans g5, r5, SPost.grow g5 k3⟩
              | bk ρ5 μ5 => exact k3
              | rt w μ5 => exact k3
        · exact k2.elim
    · exact k.elim
  · exact k.elim
end VL
end
section
set_option Elab.async false
set_option linter.all false
set_option maxRecDepth 100000
namespace VL
open PySem PySem.Spec PyProof.Rows L2
variable [LawTabs]
/-! ### xs.extend(ys), ys a list that is data -/
@[simp] def sExt (fo fe : EF) (ρ : Rho) (μ : Mu) : Option SR := match fo ρ μ with
  | some (.loc n, μ1) => (match fe ρ μ1 with
    | some (.d (.list es), μ2) => (match μ2[n]? with
      | some ds => if ds.length + es.length ≤ 1000000 then some (.nx ρ (μ2.set n (ds ++ es))) else none
      | none => none)
    | _ => none)
  | _ => none
theorem sj_ext {X : Cx} {pos : Pos} {o e : Expr} {fo fe : EF} {apos cpos : Pos} (ho : PE X o (tE X.K fo)) (he : PE X e (tE X.K fe)) (hbase : attributeBase o "extend" X.env (eval o X.env) = eval o X.env := by rfl)
    (hfew : ((backTo cpos (starEach [e] X.env)).all (fun x => !x.1) && (backToKw cpos (keywordEach [] X.env)).all (fun x => x.1.isSome) && decide (([e] : List Expr).length + ([] : List Keyword).length + (if ([] : List Keyword).isEmpty then 0 else 1) < 30)) = true := by rfl)
    (hline : (apos.endLine == cpos.line) = true := by rfl) (hs : starEach [e] X.env = (false, eval e X.env) :: starEach [] X.env := by rfl) (hplain : (backTo cpos (starEach [] X.env)).any (·.1) = false := by rfl)
    (hsw : swapsWith (.Call (.Attribute o "extend" apos) [e] [] cpos) none pos.line X.env = pure false := by rfl) : PS X (.Expr (.Call (.Attribute o "extend" apos) [e] [] cpos) pos) (tS X.K (sExt fo fe)) :=
  PS.to (ps_expr (pe_bm PySem.F.plainAttrs_list PySem.F.slot_list_extend PySem.F.type_list_extend mt_extend ho (aj_cons he aj_nil hs) hbase hfew hline hs hplain) hsw) fun D σ H ⟨φ, ρ, μ, rs, k⟩ => by
  unfold sExt at k
  split at k
  · rename_i n μ1 e1
    refine ⟨φ, ρ, μ, _, μ1, rs, e1, fun φ1 v1 H1 g1 c1 r1 => ?_⟩
    have rs1 := rs.step g1 c1
    obtain ⟨a, h1, h2⟩ := id r1
    obtain ⟨xs, hx⟩ := c1.mem (List.mem_of_getElem? h1)
    subst h2
    refine ⟨.inl ⟨rfl, xs, SqL.of hx⟩, ?_⟩
    split at k
    · rename_i es μ2 e2
      refine ⟨φ1, ρ, μ1, [.d (.list es)], μ2, rs1, by unfold aCons aNil; rw [e2]; rfl, fun φ2 vs H2 g2 c2 r2 => ?_⟩
      obtain ⟨v, r, ev, h3, h4⟩ := r2
      have h5 : r = [] := h4
      subst ev h5
      obtain ⟨b0, zs, h10, h11, h12, h13⟩ := h3
      subst h10
      split at k
      · rename_i ds e4
        split at k
        · rename_i hl
          obtain ⟨b, h6, h7⟩ := RV.step g2.w _ _ r1
          cases h7
          obtain ⟨ys, h8, h9⟩ := c2.at_ n a ds h6 e4
          refine ⟨a, b0, ys, zs, rfl, rfl, h8, h12, ?_, ?_⟩
          · rw [← h9.len, ← h13.len]; exact size_ok hl
          · obtain ⟨g4, c4⟩ := cell_write c2 h6 (DaAll.append h9 h13)
            exact k φ2 σ _ ((g1.trans g2).trans g4) ((rs1.step g2 c2).step g4 c4)
        · exact k.elim
      · exact k.elim
    · exact k.elim
  · exact k.elim
/-! ### sorted(xs), whole numbers -/
def srt (ns : List Int) : List Int := ns.mergeSort (fun a b => decide (a ≤ b))
theorem srt_eq {ns ms : List Int} (h : ms.Perm ns) (hs : ms.Pairwise (· ≤ ·)) : ms = srt ns := by
  have p2 : (srt ns).Perm ns := List.mergeSort_perm ns _
  have s2 : (srt ns).Pairwise (· ≤ ·) := by
    have := List.pairwise_mergeSort (le := fun a b : Int => decide (a ≤ b)) (fun a b c h1 h2 => by simp at *; omega) (fun a b => by simp; omega) ns
    exact this.imp fun h => by simpa using h
  exact (h.trans p2.symm).eq_of_pairwise (fun a b _ _ h1 h2 => by omega) hs s2
theorem toI_ints : ∀ xs : List Int, toI (xs.map PyData.int) = some xs
  | [] => rfl
  | x :: xs => by simp [toI_ints xs]
@[simp] def oSorted (μ : Mu) (ws : List Vw) : Option Vw := match ws with
  | [w] => ((toL μ w).bind toI).map fun ns => .d (.list ((srt ns).map PyData.int))
  | _ => none
theorem oSorted_ok {K : PySem.W.Frag} : OL K (rSortedI K) oSorted := by
  intro φ H μ ws w vs Q c r e k
  unfold oSorted at e
  split at e
  · rename_i z
    obtain ⟨v, rfl, r1⟩ := rvs1 r
    obtain ⟨ns, e1, e4⟩ := Option.map_eq_some_iff.mp e
    cases e4
    obtain ⟨ds, e2, e3⟩ := Option.bind_eq_some_iff.mp e1
    obtain ⟨a, xs, rfl, h1, h2⟩ := toL_ok c r1 e2
    rw [toI_da e3 h2] at h1
    refine ⟨a, ns, rfl, h1, fun ms p hp hs hn => ?_⟩
    rw [srt_eq hp hs]
    exact new_lst c (DaAll.ints (srt ns)) k p hn
  · cases e
end VL
end
section
set_option Elab.async false
set_option linter.all false
set_option maxRecDepth 100000
set_option maxHeartbeats 2000000
/-! own exceptions that keep one value: a class over a built-in one, whose __init__ writes its one field -/
namespace VL
open PySem PySem.W PySem.Calls PyProof.Rows PySem.HandSPX
def inA (f : Str) (p1 p2 : Pos) : Arguments := { posonlyargs := [], args := [{ arg := "self", annotation := none, pos := p1 }, { arg := f, annotation := none, pos := p2 }], vararg := none, kwonlyargs := [], kw_defaults := [], kwarg := none, defaults := [] }
def inB (f : Str) (q1 q2 q3 q4 : Pos) : List Stmt := [.Assign [.Attribute (.Name "self" q1) f q2] (.Name f q3) q4]
def inS (f : Str) : Scope := { kind := .function, names := [(PySem.Str.ofString "self", .local), (f, .local)], isGenerator := false, isCoroutine := false, more := [] }
/-- a base: its chain lets be stored, has object -/
structure LowB (bmB : List Value) (B newId initId : String) : Prop where
  F : ExcBaseFacts B newId initId bmB
  ps : ∀ self : Value, refuseLoop self "__setattr__" bmB = pure ()
  ob : bmB.contains (.type "object") = true
  ne : bmB.isEmpty = false
structure LowC (K : Frag) (mg : Str → Option Value) (x f : Str) (bmB : List Value) (newId : String) (C fI : Addr) : Prop where
  gC : mg x = some (.ref C)
  cls : ∃ nm q N bs sn sub ab col dd k0 k1 k2 k3 k5, K.lookup C = some (excClassObj nm q C N bs bmB true sn sub ab col dd k0 k1 k2 k3 k5 newId)
  sa : findIn K (.ref C) "__setattr__" = some (some (.builtin "object.__setattr__"))
  ga : findIn K (.ref C) "__getattribute__" = some (some (.builtin "BaseException.__getattribute__"))
  gg : findIn K (.ref C) "__getattr__" = some none
  noN : findIn K (.ref C) f = some none
  iC : findIn K (.ref C) "__init__" = some (some (.ref fI))
  tC : typeIn K (.ref fI) = some (.type "function")
  kC : keepIn K (.ref C) = true
  exC : subIn K (.ref C) (.type "BaseException") = some true
  tyC : typeIn K (.ref C) = some (.type "type")
  hdC : hasDictIn K C = true
  fn : ∃ (oc : Value) (od : Option Addr) (doc pm kV : Value) (an : Option Addr) (cdv ct : Value) (osl : Array (Option Value)) (qn : Str) (p1 p2 q1 q2 q3 q4 : Pos),
    K.lookup fI = some ⟨oc, od, .func (fnOf "__init__" qn (inA f p1 p2) (inB f q1 q2 q3 q4) (inS f) .none kV doc pm an cdv ct), osl⟩ ∧ codeIn K cdv qn = true
/-- a field's name that is no other word here -/
structure FldOk (f : Str) : Prop where
  dbg : (f == ("__debug__" : Str)) = false
  bind : ∀ (qn : Str) (p1 p2 q1 q2 q3 q4 : Pos) (kV doc pm : Value) (an : Option Addr) (cdv ct a v : Value), bindArgs (fnOf "__init__" qn (inA f p1 p2) (inB f q1 q2 q3 q4) (inS f) .none kV doc pm an cdv ct) ⟨[a, v], []⟩ = pure [(("self" : Str), a), (f, v)]
  knd : ∀ a v : Value, ([(("self" : Str), a), (f, v)].all fun y => (inS f).names.lookup y.1 == some .local || (inS f).names.lookup y.1 == some .cell) = true
  lkf : ∀ (qn : Str) (L a : Addr) (cd u v : Value), bindL (envOfC qn (inS f) L a cd).kindOf [(("self" : Str), u), (f, v)] (fun _ => none) f = some v
  lks : ∀ (qn : Str) (L a : Addr) (cd u v : Value), bindL (envOfC qn (inS f) L a cd).kindOf [(("self" : Str), u), (f, v)] (fun _ => none) ("self" : Str) = some u
  kdf : ∀ (qn : Str) (L a : Addr) (cd : Value), (envOfC qn (inS f) L a cd).kindOf f = some .local
  kds : ∀ (qn : Str) (L a : Addr) (cd : Value), (envOfC qn (inS f) L a cd).kindOf ("self" : Str) = some .local
theorem fld_given : FldOk "given" := ⟨by decide, fun _ _ _ _ _ _ _ _ _ _ _ _ _ _ _ => rfl, fun _ _ => rfl, fun _ _ _ _ _ _ => rfl, fun _ _ _ _ _ _ => rfl, fun _ _ _ _ => rfl, fun _ _ _ _ => rfl⟩
theorem fld_reason : FldOk "reason" := ⟨by decide, fun _ _ _ _ _ _ _ _ _ _ _ _ _ _ _ => rfl, fun _ _ => rfl, fun _ _ _ _ _ _ => rfl, fun _ _ _ _ _ _ => rfl, fun _ _ _ _ => rfl, fun _ _ _ _ => rfl⟩
theorem fld_limit : FldOk "limit" := ⟨by decide, fun _ _ _ _ _ _ _ _ _ _ _ _ _ _ _ => rfl, fun _ _ => rfl, fun _ _ _ _ _ _ => rfl, fun _ _ _ _ _ _ => rfl, fun _ _ _ _ => rfl, fun _ _ _ _ => rfl⟩
section
open Builtin Builtin.ObjectAttr
variable {prog : Program} {w : World} {A : Around} {E : Value → Shared → Prop} {R : Result → Shared → Prop} {hp : Heap} {g : Array GenState} {d : Drawn} {t : Nat} {os : OsState}
theorem low_osa {K : W.Frag} {name : Str} {tk : Tok} {v : Value} {x C : Addr} {fv : Array Value} {cd : ClassData} {bmB : List Value} {B newId initId : String} (LB : LowB bmB B newId initId)
    (X : K.In hp) (hx : hp.get? x = some { cls := .ref C, data := .fields fv }) (hcd : W.clsIn K C = some cd) (hm : cd.mro = .ref C :: bmB) (hh : cd.hasDict = true) (ha : W.findIn K (.ref C) name = some none)
    (hq : ∀ h' tk' dx, (∀ b o, b ≠ x → hp.get? b = some o → h'.get? b = some o) → hp.objs.size ≤ dx → dx ≠ x → h'.get? x = some { cls := .ref C, dict := some dx, data := .fields fv } → h'.Ns1 dx (fun y => if y = name then some v else none) → R (.ok (.ret .none)) ⟨h', g, d, tk', os⟩) :
    codeAny (model prog w) A (.call (.builtin "object.__setattr__") ⟨[.ref x, .str name tk, v], []⟩) R ⟨hp, g, d, t, os⟩ := by
  have In : W.InstAt hp x { cls := .ref C, data := .fields fv } C none := ⟨hx, rfl, rfl, trivial⟩
  have SFo := F.store_object
  have hobj : cd.mro.contains (.type "object") = true := by rw [hm, List.contains_cons, LB.ob, Bool.or_true]
  have xne : x ≠ hp.objs.size := Nat.ne_of_lt (Heap.lt_size hx)
  have mne : cd.mro.isEmpty = false := by rw [hm]; rfl
  have subO : W.Looks (model prog w) hp (isInstance (.ref x) (.type "object")) true := In.type.andThen (W.looks_mroIn X (by unfold W.mroIn; rw [hcd, Option.bind_some, if_neg (by rw [mne]; decide), hobj]))
  refine codeAny_call_builtin SFo.slot.plain SFo.entry (@W.check_slot (model prog w) _ _ ⟨hp, g, d, t, os⟩ "object.__setattr__" "object" "__setattr__" (.ref x) [.str name tk, v] [] _ SFo.kind SFo.split subO (SFo.args (.ref x) (.str name tk) v) ?_)
  have hmro : W.Looks (model prog w) hp (mroOf (.ref C)) cd.mro := (W.looks_clsIn X hcd).andThen .now
  have Lst : W.Looks (model prog w) hp (storeTaker? none) none := .now
  have hcl : W.Looks (model prog w) hp (classData C) cd := W.looks_clsIn X hcd
  rw [W.osa_eq, refuse_eq]; refine wpAny_bind (wpAny_bind (In.type.at (wpAny_bind (hmro.at ?_))))
  rw [hm, refuseLoop_ref, LB.ps]
  refine wpAny_pure (wpAny_bind (In.type.at (wpAny_bind ((W.looks_findIn X ha).at (wpAny_bind (Lst.at ?_)))))); show wpAny _ _ (storeInOwnDict (.ref x) (.ref C) (.str name tk) name v false) _ _ _
  obtain ⟨nm, bs, mro, ns, qn, hd, sn, sb, ab, col, del⟩ := cd; dsimp only at hh; subst hh
  unfold storeInOwnDict ownDictForStores
  repeat (first | with_reducible refine store_in_new ?_ ?_ | with_reducible refine wpAny_loadPart_at hx ?_ | with_reducible refine hcl.at ?_ | wp_step)
  · exact ⟨_, #[], _, (Heap.get?_update_ne _ _ _ _ xne.symm).trans (Heap.get?_push_at rfl rfl), rfl, (fun e he => absurd he (by simp)), fun _ => rfl⟩
  · intro h' tk' hn' hs
    have hx1 : (hp.push { cls := .type "dict", data := .dict #[] }).get? x = some { cls := .ref C, data := .fields fv } := Heap.get?_push_of_some _ hx
    refine hq h' tk' hp.objs.size (fun b o hb ho => ?_) (Nat.le_refl _) xne.symm ((hs.2 x xne).trans (Heap.get?_update_self _ hx1 rfl)) hn'
    exact (hs.2 b (Nat.ne_of_lt (Heap.lt_size ho))).trans ((Heap.get?_update_ne _ _ _ _ hb).trans (Heap.get?_push_of_some _ ho))
end
/-- what __init__ leaves of a fresh exception at x -/
structure LowEnd (f : Str) (h h' : Heap) (x C dx t1 : Addr) (v : Value) : Prop where
  kp : ∀ b o, b ≠ x → h.get? b = some o → h'.get? b = some o
  ob : h'.get? x = some { cls := .ref C, dict := some dx, data := .fields #[.ref t1, .none, .none, .none, .bool false, .none] }
  big : h.objs.size ≤ dx
  ne : dx ≠ x
  ns : h'.Ns1 dx (fun y => if y = f then some v else none)
structure LowMade (f : Str) (h h' : Heap) (e C d : Addr) (v : Value) : Prop where
  kp : ∀ b o, h.get? b = some o → h'.get? b = some o
  new : h.objs.size ≤ e
  ob : ∃ oe vs, h'.get? e = some oe ∧ oe.cls = .ref C ∧ oe.dict = some d ∧ oe.data = .fields vs ∧ vs[1]? = some .none
  big : h.objs.size ≤ d
  ne : d ≠ e
  ns : h'.Ns1 d (fun y => if y = f then some v else none)
theorem low_ld {M : Model} {s : Shared} {name : Str} {scope : Scope} {L a : Addr} {cd : Value} {m : Str → Option Value} {x : Str} {pos : Pos} {v : Value} {Q : Value → Shared → Prop} {A : Around} {E : Value → Shared → Prop} (hn : s.heap.Ns L m) (hv : m x = some v) (h : Q v s)
    (hk : scope.kind = .function) (hl : (envOfC name scope L a cd).kindOf x = some .local) (hd : (x == ("__debug__" : Str)) = false) : wpAny M A (eval (.Name x pos) (envOfC name scope L a cd)) Q E s := wpAny_Name (wpAny_loadName_local hk hl hn hv h) hd
section
variable {prog : Program} {w : World} {A : Around} {E : Value → Shared → Prop} {R : Result → Shared → Prop} {s : Shared} {K : Frag} {mg : Str → Option Value} {C fI : Addr} {x f : Str} {bmB : List Value} {B newId initId : String}
theorem low_initG (LB : LowB bmB B newId initId) (hf : FldOk f) (T : LowC K mg x f bmB newId C fI) {xa t0 : Addr} {v : Value} (X : K.In s.heap) (hlim : s.heap.NoLimit) (hx : s.heap.get? xa = some (excO C t0)) (hnx : K.lookup xa = none) (hroom : A.depth < recursionLimit)
    (hq : ∀ h' tk dx, LowEnd f s.heap h' xa C dx t0 v → R (.ok (.ret .none)) { s with heap := h', toks := tk }) : codeAny (model prog w) A (.call (.ref fI) ⟨[.ref xa, v], []⟩) R s := by
  obtain ⟨oc, od, doc, pm, kV, an, cdv, ct, osl, qn, p1, p2, q1, q2, q3, q4, ho, hcd⟩ := T.fn
  obtain ⟨nm, q, N, bs, sn, sub, ab, col, dd, k0, k1, k2, k3, k5, hC⟩ := T.cls
  have hcl : clsIn K C = some { name := nm, bases := bs, mro := .ref C :: bmB, ns := N, qualname := q, hasDict := true, slotNames := sn, subclasses := sub, abstract := ab, collection := col, hasDel := false } := by unfold clsIn; rw [hC] <;> rfl
  refine Att.call_fn (binds := [("self", .ref xa), (f, v)]) X hlim ho hcd hroom (BindsTo.of_eq (hf.bind _ _ _ _ _ _ _ _ _ _ _ _ _ _ _)) (hf.knd _ _) (fun s₁ IC => ?_) rfl rfl rfl
  obtain ⟨h₁, tk₁, rfl⟩ := IC.toInCall.same
  have k : ∀ b o, s.heap.get? b = some o → h₁.get? b = some o := IC.toInCall.keep
  have hn := IC.toInCall.ns
  have X₁ : K.In h₁ := X.keeps k
  have hx₁ := k _ _ hx
  show wpAny _ _ (execs _ _) _ _ _; refine wpAny_execs_cons (plainObj_wpAny_Assign_Attribute ?_)
  refine low_ld (v := v) hn (hf.lkf _ _ _ _ _ _) (low_ld (v := .ref xa) hn (hf.lks _ _ _ _ _ _) ?_ rfl (hf.kds _ _ _ _) (by decide)) rfl (hf.kdf _ _ _ _) hf.dbg
  · refine set_plain X₁ (ox := excO C t0) (od := none) ⟨hx₁, rfl, rfl, trivial⟩ T.sa ?_
    refine low_osa LB X₁ hx₁ hcl rfl rfl T.noN (fun h₃ tk₃ dx k₃ dn dne hx₃ hn₃ => ?_)
    show wpAny _ _ (execs _ _) _ _ _
    have z : s.heap.objs.size < h₁.objs.size := hn.lt
    exact wpAny_execs_nil (hq h₃ tk₃ dx ⟨fun b o hb e => k₃ b o hb (k b o e), hx₃, Nat.le_of_lt (Nat.lt_of_lt_of_le z dn), dne, hn₃⟩)
end
end VL
end
section
set_option Elab.async false
set_option linter.all false
set_option maxRecDepth 100000
set_option maxHeartbeats 2000000
namespace VL
open PySem PySem.W PySem.Calls PyProof.Rows PySem.HandSPX
section
variable {prog : Program} {w : World} {A : Around} {E : Value → Shared → Prop} {R : Result → Shared → Prop} {s : Shared} {K : Frag} {mg : Str → Option Value} {C fI : Addr} {x f : Str} {bmB : List Value} {B newId initId : String}
theorem low_madeG (LB : LowB bmB B newId initId) (hf : FldOk f) (T : LowC K mg x f bmB newId C fI) {v : Value} (X : K.In s.heap) (hlim : s.heap.NoLimit) (hroom : A.depth + 1 < recursionLimit)
    (hq : ∀ h' tk e d, LowMade f s.heap h' e C d v → R (.ok (.ret (.ref e))) { s with heap := h', toks := tk }) : codeAny (model prog w) A (.call (.ref C) ⟨[v], []⟩) R s := by
  obtain ⟨nm, q, N, bs, sn, sub, ab, col, dd, k0, k1, k2, k3, k5, hC⟩ := T.cls
  obtain ⟨hp, g, dr, tk, os⟩ := s
  have kk : ∀ b o, hp.get? b = some o → ((hp.push (kdv_tup [v])).push (excO C hp.objs.size)).get? b = some o := fun b o e => Heap.get?_push_of_some _ (Heap.get?_push_of_some _ e)
  have hgt : ((hp.push (kdv_tup [v])).push (excO C hp.objs.size)).get? (hp.objs.size + 1) = some (excO C hp.objs.size) := by heap_get
  have hnx : K.lookup (hp.objs.size + 1) = none := by
    cases e : K.lookup (hp.objs.size + 1) with
    | none => rfl
    | some o => exact absurd (Nat.lt_of_succ_lt (Heap.lt_size (show hp.get? (hp.objs.size + 1) = some o from X _ _ e))) (Nat.lt_irrefl _)
  refine call_own LB.F (fun _ => rfl) (X _ _ hC) (looks_findIn X T.iC) (fun self => bind_fn X self T.tC) (by rw [sizeLine_eq]; exact (by decide : 1 ≤ 16777216)) ?_
  refine low_initG (s := ⟨(hp.push (kdv_tup [v])).push (excO C hp.objs.size), g, dr, tk, os⟩) LB hf T (X.keeps kk) (hlim.keeps kk) hgt hnx (show A.depth + 1 < recursionLimit from hroom) fun h' tk' dx M => ?_
  have old : ∀ b o, hp.get? b = some o → h'.get? b = some o := fun b o e => M.kp b o (Nat.ne_of_lt (Nat.lt_succ_of_lt (Heap.lt_size e))) (kk b o e)
  have z : hp.objs.size + 1 + 1 ≤ dx := by
    have q := M.big
    first
      | (rw [Heap.size_push, Heap.size_push] at q; exact q)
      | (simpa only [Heap.size_push] using q)
      | exact q
  exact ⟨rfl, hq h' tk' (hp.objs.size + 1) dx ⟨old, Nat.le_succ _, ⟨_, _, M.ob, rfl, rfl, rfl, rfl⟩, Nat.le_trans (Nat.le_trans (Nat.le_succ _) (Nat.le_succ _)) z, M.ne, M.ns⟩⟩
end
end VL
namespace VL
open PySem PySem.Spec PyProof.Rows L2
theorem relO_lowG {f : Str} {v : V} {v' : Value} (r : RelV v v') (y : Str) : RelO (List.lookup y [(f, v)]) (if y = f then some v' else none) := by
  by_cases h : y = f
  · subst h
    rw [if_pos rfl, show List.lookup y [(y, v)] = some v by simp [List.lookup]]
    exact r
  · have hb : (y == f) = false := by simpa using h
    rw [if_neg h, show List.lookup y [(f, v)] = none by simp [List.lookup, hb]]
    trivial
section
variable {X : Cx} {C fI : Addr} {x f : Str} {bmB : List Value} {B newId initId : String}
/-- x(e) -/
def tMkL (f : Str) (C : Addr) (ta : TA) : L2.St → Hp → XK → Prop := fun σ H Q => ta σ H fun vs H1 => ∃ v, vs = [v] ∧ ∀ d, H1 d = none → Q (.ref C) (some d) (upd H1 d (.xd [(f, v)]))
theorem pmk_lowG {a : Expr} {ta : TA} {p pos : Pos} {k : Nat} (LB : LowB bmB B newId initId) (hf : FldOk f) (T : LowC X.K X.mg x f bmB newId C fI) (hr : Room k X.A) (ha : PA X [a] ta) (hg : Gl X x := by rfl) (hdb : (x == ("__debug__" : Str)) = false := by decide)
    (he : starEach (a :: []) X.env = (false, eval a X.env) :: starEach [] X.env := by rfl) (hpl : (backTo pos (starEach [] X.env)).any (·.1) = false := by rfl) : PMk X (.Call (.Name x p) [a] [] pos) (tMkL f C ta) := by
  intro pins s σ H Q I h
  refine wpAny_Call_Name_kw (ld_glob I hg T.gC ?_ hdb)
  refine PySem.W.callWith_K (h₀ := X.base) I.ok.mod.kin T.kC (thn (ha.run pos pins s σ H _ I h) fun us s1 hh => ?_) he hpl
  obtain ⟨vs, H1, I1, r1, v, ev, q1⟩ := hh
  subst ev
  refine ⟨I1.kIn, ?_⟩
  cases r1 with
  | cons rv rn =>
    rename_i v' us'
    cases rn
    show wpAny _ _ (call (.ref C) [v']) _ _ _
    have nl := I1.nolimit
    obtain ⟨hp, g, dr, tk, os⟩ := s1
    refine wpAny_call (low_madeG LB hf T I1.kIn nl (by have := hr.dp; omega) fun h' tk' e d M => ?_)
    show MkP X pins σ Q (.ref e) ⟨h', g, dr, tk', os⟩
    obtain ⟨oe, fv, hoe, hc, hd, hdat, h1⟩ := M.ob
    obtain ⟨G', g1, g2⟩ := restrict h' fun b => decide (b ≠ e)
    have gk : ∀ b, b ≠ e → G'.get? b = h'.get? b := fun b hb => g1 b (decide_eq_true hb)
    have ge : G'.get? e = none := g2 e (by simp)
    have old : ∀ b o, hp.get? b = some o → G'.get? b = some o := fun b o q => (gk b (Nat.ne_of_lt (Nat.lt_of_lt_of_le (Heap.lt_size q) M.new))).trans (M.kp b o q)
    have ob : ObjOk X.prog X.w (upd H1 d (.xd [(f, v)])) G' d (.xd [(f, v)]) := ⟨_, M.ns.at (fun o q => (gk d M.ne).trans q), fun y => relO_lowG rv y⟩
    have J : Inv X pins σ (upd H1 d (.xd [(f, v)])) ⟨G', g, dr, tk', os⟩ := I1.laid (t' := tk') old M.big ob
    refine ⟨e, oe, fv, ⟨G', g, dr, tk', os⟩, _, .ref C, some d, rfl, J, fun b o q => ?_, ge, hoe, ⟨hc, hd⟩, hdat, h1, ?_, rfl, I1.bare, raises_own T.exC T.tyC, q1 d (I1.hok.fresh M.big)⟩
    · by_cases hb : b = e
      · rw [hb, show G'.get? e = none from ge] at q; cases q
      · exact (gk b hb).symm.trans q
    · rw [upd_ne (Ne.symm M.ne)]; exact I1.hok.fresh M.new
/-- n.f, n the exception that the suite holds (at a; its class cls, its dict d) -/
def tByL (f : Str) (C : Addr) (a : Addr) (cls : Value) (d : Option Addr) (te : TE) : TE := fun σ H Q => te σ H fun x H1 => x = .ref a ∧ cls = .ref C ∧ ∃ (dd : Addr) (v : V), d = some dd ∧ H1 dd = some (.xd [(f, v)]) ∧ Q v H1
theorem pe_byLowG {a : Addr} {oe : Obj} {cls : Value} {d : Option Addr} {pn : List (Addr × Obj)} {e : Expr} {te : TE} {pos : Pos} (T : LowC X.K X.mg x f bmB newId C fI) (hz : Zc cls d oe) (hf : ∃ vs, oe.data = .fields vs) (he : PE (X.suite a ((a, oe) :: pn)) e te)
    (hb : attributeBase e f X.env (eval e X.env) = eval e X.env := by rfl) : PE (X.suite a ((a, oe) :: pn)) (.Attribute e f pos) (tByL f C a cls d te) := by
  refine ⟨fun pins s σ H Q I h => ?_⟩
  refine attr_of hb (thn (he.run pins s σ H _ I h) fun u s1 hh => ?_)
  obtain ⟨y, H1, I1, rx, ex, ec, dd, v, ed, ea, q⟩ := hh
  subst ex
  obtain rfl : u = Value.ref a := rx
  subst ec ed
  obtain ⟨ha, _⟩ := I1.pin (a, oe) (List.mem_append_left _ List.mem_cons_self)
  obtain ⟨vs, hd⟩ := hf
  have hxo : ObjOk X.prog X.w H1 s1.heap dd (.xd [(f, v)]) := I1.hok dd _ ea
  obtain ⟨mA, hns, hrr⟩ := hxo
  obtain ⟨od, ho, hl⟩ := lookIn_ns hns
  obtain ⟨u, hu, ru⟩ := RelO.some_of (v := v) (o := mA f) (by rw [← (show List.lookup f [(f, v)] = some v by simp [List.lookup])]; exact hrr f)
  have J : PySem.W.InstAt s1.heap a oe C (some od) := ⟨ha, hz.1, by unfold PySem.W.notCls; rw [hd] <;> rfl, by rw [hz.2]; exact ho⟩
  exact HandSPX.exc_get I1.kIn J T.ga T.gg T.exC (PySem.W.findObj_own T.hdC T.noN rfl (by rw [hl, hu])) (handed_of ru) ⟨v, H1, I1.tok _, ru, q⟩
end
end VL
end
section
set_option Elab.async false
set_option linter.all false
set_option maxRecDepth 100000
namespace VL
open PySem PySem.Spec PyProof.Rows L2
variable [LawTabs]
/-! ### what may be raised: an own exception without, with a value -/
inductive Xc where
  | own (x : Str)
  | low (x f : Str) (p : PyData)
inductive XR where
  | vl (w : Vw) (μ : Mu) | ex (e : Xc) (μ : Mu)
inductive SX where
  | s (r : SR) | ex (e : Xc) (μ : Mu)
abbrev XM := Mu → List Vw → Option XR
abbrev XF := Rho → Mu → Option SX
def XP (K : PySem.W.Frag) (φ : Ph) (H : Hp) (W : XK) : Xc → Mu → Prop
  | .own x, μ' => ∀ φ' H', Grow φ φ' H H' → Cells K φ' H' μ' → W (.ref (He.ga K x)) none H'
  | .low x f p, μ' => ∀ φ' H' d v, Grow φ φ' H H' → Cells K φ' H' μ' → H' d = some (.xd [(f, v)]) → Da K φ'.av H' p v → W (.ref (He.ga K x)) (some d) H'
theorem XP.grow {K : PySem.W.Frag} {φ φ' : Ph} {H H' : Hp} {W : XK} {e : Xc} {μ : Mu} (g : Grow φ φ' H H') (h : XP K φ H W e μ) : XP K φ' H' W e μ := by
  cases e with
  | own x => exact fun φ2 H2 g2 c2 => h φ2 H2 (g.trans g2) c2
  | low x f p => exact fun φ2 H2 d v g2 c2 => h φ2 H2 d v (g.trans g2) c2
def XRP (K : PySem.W.Frag) (φ : Ph) (H : Hp) (Q : VK) (W : XK) : Option XR → Prop
  | some (.vl w μ) => Post K φ H μ w Q
  | some (.ex e μ) => XP K φ H W e μ
  | none => False
theorem XRP.grow {K : PySem.W.Frag} {φ φ' : Ph} {H H' : Hp} {Q : VK} {W : XK} {r : Option XR} (g : Grow φ φ' H H') (h : XRP K φ H Q W r) : XRP K φ' H' Q W r := by
  cases r with
  | none => exact h
  | some r =>
    cases r with
    | vl w μ => exact fun φ2 v2 H2 g2 c2 r2 => h φ2 v2 H2 (g.trans g2) c2 r2
    | ex e μ => exact XP.grow g h
def SXP (K : PySem.W.Frag) (φ : Ph) (H : Hp) (D : Ends) (W : XK) : Option SX → Prop
  | some (.s r) => SPost K φ H D (some r)
  | some (.ex e μ) => XP K φ H W e μ
  | none => False
theorem SXP.grow {K : PySem.W.Frag} {φ φ' : Ph} {H H' : Hp} {D : Ends} {W : XK} {r : Option SX} (g : Grow φ φ' H H') (h : SXP K φ H D W r) : SXP K φ' H' D W r := by
  cases r with
  | none => exact h
  | some r =>
    cases r with
    | s r => exact SPost.grow g h
    | ex e μ => exact XP.grow g h
def tX (K : PySem.W.Frag) (W : XK) (g : XF) : TS := fun D σ H => ∃ φ ρ μ, RS K φ σ H ρ μ ∧ SXP K φ H D W (g ρ μ)
/-! ### defs that may raise -/
def spX (K : PySem.W.Frag) (n : Nat) (m : XM) : Sp := fun vs H Q E => ∃ φ μ ws, Cells K φ H μ ∧ RVs K φ H ws vs ∧ ws.length = n ∧ XRP K φ H Q E (m μ ws)
def fnX (n : Nat) (body : XF) (μ : Mu) (ws : List Vw) : Option XR := match body (ws.map some ++ List.replicate (n - ws.length) none) μ with
  | some (.s (.rt w μ1)) => (frz false μ.length w μ1).map fun r => .vl r.1 r.2
  | some (.s (.nx _ μ1)) => some (.vl (.d .none) (μ1.take μ.length))
  | some (.ex e μ1) => some (.ex e (μ1.take μ.length))
  | _ => none
theorem XP.cut {K : PySem.W.Frag} {φ : Ph} {H : Hp} {W : XK} {e : Xc} {μ μ1 : Mu} (c : Cells K φ H μ) (h : XP K φ H W e (μ1.take μ.length)) : XP K φ H W e μ1 := by
  cases e with
  | own x => exact fun φ2 H2 g2 c2 => h φ H2 (cut_grow g2) (cut_cells c g2 c2)
  | low x f p => exact fun φ2 H2 d v g2 c2 hd r => h φ H2 d v (cut_grow g2) (cut_cells c g2 c2) hd (Da.weak (sub_av g2) p v r)
section
variable {P : Program} {w : World} {K : PySem.W.Frag} {mg : Str → Option Value} {base : Heap}
theorem fnX_ok {x qual : Str} {params : Arguments} {body : List Stmt} {scope : Scope} {kws : List (Str × V)} {f : Addr} {fd : FuncData} {N ps : List Str} {k : Nat} {g : XF} (F : FunD K x qual params body scope [] kws f fd) (S : FnScope N ps scope)
    (h : ∀ (cdv : Value) (A : Around) (outer : List Env) (s : Shared) (H : Hp) (E : XK), Room k (A.deeper (envOfC qual scope s.heap.objs.size f cdv)) → PSs (cxOf (L2.CX P w) P w K mg base N qual scope f cdv A outer s H E) body (tX K E g)) :
    FnOk P w K mg base (L2.CX P w) (k + 1) f fd ps (spX K ps.length (fnX N.length g)) := by
  refine F.ok S (fun vs H Q E ⟨φ, μ, ws, c, r, hl, k⟩ => by rw [← r.len, hl]) fun cdv A outer s H vs Q E hr hsp => ⟨_, h cdv A outer s H E hr, ?_⟩
  obtain ⟨φ, μ, ws, c, r, hl, k⟩ := hsp
  refine ⟨φ, _, μ, rvs_start c r, ?_⟩
  unfold fnX at k
  cases e : g (ws.map some ++ List.replicate (N.length - ws.length) none) μ with
  | none => rw [e] at k; exact k.elim
  | some q =>
    rw [e] at k
    cases q with
    | ex x μ1 => exact XP.cut c k
    | s q =>
      cases q with
      | nx ρ1 μ1 => exact fun φ2 σ2 H2 g2 r2 => k φ .non H2 (cut_grow g2) (cut_cells c g2 r2.c) rfl
      | rt w1 μ1 =>
        cases e2 : frz false μ.length w1 μ1 with
        | none => simp only [e2] at k; exact k.elim
        | some z =>
          simp only [e2] at k
          exact fun φ2 v2 H2 g2 c2 r2 => frz_post c g2 c2 r2 e2 k
      | bk ρ1 μ1 => exact k.elim
      | ct ρ1 μ1 => exact k.elim
/-- what may be called by the name x, and may raise -/
structure CalX (P : Program) (w : World) (K : PySem.W.Frag) (mg : Str → Option Value) (base : Heap) (k : Nat) (x : Str) (n : Nat) (m : XM) : Prop where
  ex : ∃ fd ps, FnOk P w K mg base (L2.CX P w) k (He.ga K x) fd ps (spX K n m) ∧ mg x = some (.ref (He.ga K x)) ∧ PySem.W.keepIn K (.ref (He.ga K x)) = true ∧ Binds K fd ps []
theorem CalX.mono {j k : Nat} {x : Str} {n : Nat} {m : XM} (c : CalX P w K mg base j x n m) (h : j ≤ k) : CalX P w K mg base k x n m := by
  obtain ⟨fd, ps, h1, h2, h3, h4⟩ := c.ex
  exact ⟨fd, ps, h1.mono h, h2, h3, h4⟩
theorem calX_ok {x : Str} {params : Arguments} {body : List Stmt} {scope : Scope} {fd : FuncData} {N ps : List Str} {k : Nat} {g : XF} (hf : mg x = some (.ref (He.ga K x))) (F : FunD K x x params body scope [] [] (He.ga K x) fd) (S : FnScope N ps scope)
    (hb : ∀ (kV doc pm : Value) (an : Option Addr) (cdv ct : Value) (us : List Value), us.length = ps.length → bindArgs (PySem.W.fnOf x x params body scope .none kV doc pm an cdv ct) ⟨us, []⟩ = pure (ps.zip us))
    (h : ∀ (cdv : Value) (A : Around) (outer : List Env) (s : Shared) (H : Hp) (E : XK), Room k (A.deeper (envOfC x scope s.heap.objs.size (He.ga K x) cdv)) → PSs (cxOf (L2.CX P w) P w K mg base N x scope (He.ga K x) cdv A outer s H E) body (tX K E g)) :
    CalX P w K mg base (k + 1) x ps.length (fnX N.length g) := ⟨fd, ps, fnX_ok F S h, hf, F.kp, F.bindsN hb⟩
end
/-- a call whose raising is wished for -/
def tXE (K : PySem.W.Frag) (W : XK) (n : Nat) (m : XM) (fa : AF) : TE := fun σ H Q => ∃ φ ρ μ, RS K φ σ H ρ μ ∧ ∃ ws μ1, fa ρ μ = some (ws, μ1) ∧ ws.length = n ∧ XRP K φ H Q W (m μ1 ws)
section
variable {X : Cx} {W : XK} {k n : Nat} {x : Str} {m : XM} {e : Expr} {es : List Expr} {fa : AF} {p pos : Pos} {st : Stmt} {rest : List Stmt}
theorem xe_call (tk : Takes X (fun cls d _ H => W cls d H)) (c : CalX X.prog X.w X.K X.mg X.base k x n m) (hr : Room k X.A) (ha : PA X (e :: es) (tA X.K fa)) (hg : Gl X x := by rfl) (hdb : (x == ("__debug__" : Str)) = false := by decide)
    (he : starEach (e :: es) X.env = (false, eval e X.env) :: starEach es X.env := by rfl) (hpl : (backTo pos (starEach es X.env)).any (·.1) = false := by rfl) : PE X (.Call (.Name x p) (e :: es) [] pos) (tXE X.K W n m fa) := by
  obtain ⟨fd, ps, F, hm, hk, hb⟩ := c.ex
  refine PE.to (pe_callS (E := fun _ => W) F hr hg hm hk hb (fun σ => passAt tk σ) ha hdb he hpl) fun σ H Q ⟨φ, ρ, μ, rs, ws, μ1, e1, hl, k⟩ => ?_
  exact ⟨φ, ρ, μ, ws, μ1, rs, e1, fun φ1 vs H1 g1 c1 r1 => ⟨φ1, μ1, ws, c1, r1, hl, k.grow g1⟩⟩
@[simp] def xLift (g : SF) (ρ : Rho) (μ : Mu) : Option SX := (g ρ μ).map SX.s
theorem xj_lift {g : SF} (h : PS X st (tS X.K g)) : PS X st (tX X.K W (xLift g)) := PS.to h fun D σ H ⟨φ, ρ, μ, rs, k⟩ => by
  refine ⟨φ, ρ, μ, rs, ?_⟩
  unfold xLift at k
  cases e : g ρ μ with
  | none => rw [e] at k; exact k
  | some r => rw [e] at k; exact k
theorem xss_lift {g : SF} (h : PSs X rest (tS X.K g)) : PSs X rest (tX X.K W (xLift g)) := PSs.to h fun D σ H ⟨φ, ρ, μ, rs, k⟩ => by
  refine ⟨φ, ρ, μ, rs, ?_⟩
  unfold xLift at k
  cases e : g ρ μ with
  | none => rw [e] at k; exact k
  | some r => rw [e] at k; exact k
@[simp] def xOwn (x : Str) (_ : Rho) (μ : Mu) : Option SX := some (.ex (.own x) μ)
@[simp] def xLow (x f : Str) (g : EF) (ρ : Rho) (μ : Mu) : Option SX := match g ρ μ with
  | some (.d p, μ1) => some (.ex (.low x f p) μ1)
  | _ => none
@[simp] def xSeq (g h : XF) (ρ : Rho) (μ : Mu) : Option SX := match g ρ μ with
  | some (.s (.nx ρ1 μ1)) => h ρ1 μ1
  | r => r
@[simp] def xIf (t : BF) (g h : XF) (ρ : Rho) (μ : Mu) : Option SX := match t ρ μ with
  | some (true, μ1) => g ρ μ1
  | some (false, μ1) => h ρ μ1
  | none => none
@[simp] def xDrop (n : Nat) (m : XM) (fa : AF) (ρ : Rho) (μ : Mu) : Option SX := match fa ρ μ with
  | some (ws, μ1) => if ws.length = n then (match m μ1 ws with
    | some (.vl _ μ2) => some (.s (.nx ρ μ2))
    | some (.ex e μ2) => some (.ex e μ2)
    | none => none) else none
  | none => none
@[simp] def xRet (n : Nat) (m : XM) (fa : AF) (ρ : Rho) (μ : Mu) : Option SX := match fa ρ μ with
  | some (ws, μ1) => if ws.length = n then (match m μ1 ws with
    | some (.vl w μ2) => some (.s (.rt w μ2))
    | some (.ex e μ2) => some (.ex e μ2)
    | none => none) else none
  | none => none
theorem xss_one {g : XF} (h : PS X st (tX X.K W g)) : PSs X [st] (tX X.K W g) := pss_one h
theorem xss_nil : PSs X [] (tX X.K W (xLift sNx)) := xss_lift ssj_nil
theorem xss_cons {g h : XF} (h1 : PS X st (tX X.K W g)) (h2 : PSs X rest (tX X.K W h)) : PSs X (st :: rest) (tX X.K W (xSeq g h)) := PSs.to (pss_cons h1 h2) fun D σ H ⟨φ, ρ, μ, rs, k⟩ => by
  refine ⟨φ, ρ, μ, rs, ?_⟩
  unfold xSeq at k
  cases e : g ρ μ with
  | none => rw [e] at k; exact k
  | some r =>
    rw [e] at k
    cases r with
    | ex x μ1 => exact k
    | s r =>
      cases r with
      | nx ρ1 μ1 => exact fun φ1 σ1 H1 g1 r1 => ⟨φ1, ρ1, μ1, r1, k.grow g1⟩
      | rt w μ1 => exact k
      | bk ρ1 μ1 => exact k
      | ct ρ1 μ1 => exact k
theorem xj_if {c : Expr} {a b : List Stmt} {t : BF} {g h : XF} (hc : PT X c (tT X.K t)) (ha : PSs X a (tX X.K W g)) (hb : PSs X b (tX X.K W h)) : PS X (.If c a b pos) (tX X.K W (xIf t g h)) := PS.to (ps_if hc ha hb) fun D σ H ⟨φ, ρ, μ, rs, k⟩ => by
  unfold xIf at k
  cases e1 : t ρ μ with
  | none => rw [e1] at k; exact k.elim
  | some r =>
    obtain ⟨d, μ1⟩ := r
    rw [e1] at k
    refine ⟨φ, ρ, μ, d, μ1, rs, e1, fun φ1 H1 g1 c1 => ?_⟩
    cases d with
    | true =>
      refine L2.iteT ?_
      exact ⟨φ1, ρ, μ1, rs.step g1 c1, SXP.grow g1 k⟩
    | false =>
      refine L2.iteF ?_
      exact ⟨φ1, ρ, μ1, rs.step g1 c1, SXP.grow g1 k⟩
theorem xj_expr (h : PE X e (tXE X.K W n m fa)) (hs : swapsWith e none pos.line X.env = pure false := by rfl) : PS X (.Expr e pos) (tX X.K W (xDrop n m fa)) := PS.to (ps_expr h hs) fun D σ H ⟨φ, ρ, μ, rs, k⟩ => by
  unfold xDrop at k
  split at k
  · rename_i ws μ1 e1
    split at k
    · rename_i hl
      refine ⟨φ, ρ, μ, rs, ws, μ1, e1, hl, ?_⟩
      cases e2 : m μ1 ws with
      | none => simp only [e2] at k; exact k.elim
      | some r =>
        simp only [e2] at k
        cases r with
        | vl w μ2 => exact fun φ1 v1 H1 g1 c1 r1 => k φ1 σ H1 g1 (rs.step g1 c1)
        | ex x μ2 => exact k
    · exact k.elim
  · exact k.elim
theorem xj_ret (h : PE X e (tXE X.K W n m fa)) : PS X (.Return (some e) pos) (tX X.K W (xRet n m fa)) := PS.to (ps_ret h) fun D σ H ⟨φ, ρ, μ, rs, k⟩ => by
  unfold xRet at k
  split at k
  · rename_i ws μ1 e1
    split at k
    · rename_i hl
      refine ⟨φ, ρ, μ, rs, ws, μ1, e1, hl, ?_⟩
      cases e2 : m μ1 ws with
      | none => simp only [e2] at k; exact k.elim
      | some r =>
        simp only [e2] at k
        cases r with
        | vl w μ2 => exact k
        | ex x μ2 => exact k
    · exact k.elim
  · exact k.elim
/-- what the top says of an own exception that keeps nothing -/
structure OwnE (K : PySem.W.Frag) (mg : Str → Option Value) (x : Str) : Prop where
  gl : mg x = some (.ref (He.ga K x))
  ok : (He.Fa.exc x).ok K = true
theorem xj_raise_own {ms : Str} {j : Nat} {p2 pos2 : Pos} (hc : X.calm = true) (tk : Takes X (fun cls d _ H => W cls d H)) (o : OwnE X.K X.mg x) (hg : Gl X x := by rfl) (hdb : (x == ("__debug__" : Str)) = false := by decide) :
    PS X (.Raise (some (.Call (.Name x p) [.Constant (.str ms) j p2] [] pos)) none pos2) (tX X.K W (xOwn x)) := by
  obtain ⟨q1, q2, q3, q4⟩ := He.exc_ok o.ok
  exact PS.to (ps_raise hc tk (pmk_own PySem.F.excBase_ValueError q1 o.gl q2 (raises_own q3 q4) hg hdb)) fun D σ H ⟨φ, ρ, μ, rs, k⟩ => k φ H (.refl _ _) rs.c
theorem xj_raise_low {f : Str} {bmB : List Value} {B newId initId : String} {fI : Addr} {g : EF} {pos2 : Pos} (hc : X.calm = true) (tk : Takes X (fun cls d _ H => W cls d H)) (LB : LowB bmB B newId initId) (hf : FldOk f) (T : LowC X.K X.mg x f bmB newId (He.ga X.K x) fI) (hr : Room k X.A) (he : PE X e (tE X.K g)) (hg : Gl X x := by rfl) (hdb : (x == ("__debug__" : Str)) = false := by decide)
    (hs : starEach [e] X.env = (false, eval e X.env) :: starEach [] X.env := by rfl) (hpl : (backTo pos (starEach [] X.env)).any (·.1) = false := by rfl) : PS X (.Raise (some (.Call (.Name x p) [e] [] pos)) none pos2) (tX X.K W (xLow x f g)) :=
  PS.to (ps_raise hc tk (pmk_lowG LB hf T hr (aj_cons he aj_nil hs) hg hdb hs hpl)) fun D σ H ⟨φ, ρ, μ, rs, k⟩ => by
    unfold xLow at k
    split at k
    · rename_i p μ1 e1
      refine ⟨φ, ρ, μ, [.d p], μ1, rs, by unfold aCons aNil; rw [e1]; rfl, fun φ1 vs H1 g1 c1 r1 => ?_⟩
      obtain ⟨v, rfl, r2⟩ := rvs1 r1
      exact ⟨v, rfl, fun d hd => k φ1 _ d v (g1.trans (Grow.laid hd)) (c1.laid hd) upd_same (Da.step (Grow.laid hd).w p v r2)⟩
    · exact k.elim
end
end VL
end
section
set_option Elab.async false
set_option linter.all false
set_option maxRecDepth 100000
namespace VL
open PySem PySem.Spec PyProof.Rows L2
/-! ### try with several clauses, some with a name -/
abbrev Cl : Type := Value × Option Nat × (Addr → Value → Option Addr → TS)
def slotOff (i : Nat) (D : Ends) : Ends := { nx := fun σ' H' => D.nx (σ'.set i none) H', rt := D.rt, bk := fun σ' H' => D.bk (σ'.set i none) H', ct := fun σ' H' => D.ct (σ'.set i none) H' }
def wMix (K : PySem.W.Frag) (Wo : WX) (D : Ends) : List Cl → WX
  | [] => Wo
  | (c, none, ts) :: r => fun cls d σ H => ∃ b, PySem.W.exmOne K cls c = some b ∧ (b = true → ∀ a, H a = none → ts a cls d D σ H) ∧ (b = false → wMix K Wo D r cls d σ H)
  | (c, some i, ts) :: r => fun cls d σ H => ∃ b, PySem.W.exmOne K cls c = some b ∧ (b = true → ∀ a, H a = none → ts a cls d (slotOff i D) (σ.set i (some (.ref a))) H) ∧ (b = false → wMix K Wo D r cls d σ H)
inductive MixOk (X : Cx) : List ExceptHandler → List Cl → Prop
  | nil : MixOk X [] []
  | only {x : Str} {c : Value} {ts : Addr → Value → Option Addr → TS} {b0 : Stmt} {su : List Stmt} {np p' : Pos} {hds : List ExceptHandler} {l : List Cl} (hc : Names X x c)
      (hsu : ∀ (a : Addr) (oe : Obj) (cls : Value) (d : Option Addr) (pn : List (Addr × Obj)), Zc cls d oe → (∃ vs, oe.data = .fields vs) → PSs (X.suite a ((a, oe) :: pn)) (b0 :: su) (ts a cls d)) (r : MixOk X hds l) :
      MixOk X (.ExceptHandler (some (.Name x np)) none (b0 :: su) p' :: hds) ((c, none, ts) :: l)
  | named {x n : Str} {i : Nat} {c : Value} {ts : Addr → Value → Option Addr → TS} {b0 : Stmt} {su : List Stmt} {np p' : Pos} {hds : List ExceptHandler} {l : List Cl} (hc : Names X x c) (hi : X.N[i]? = some n) (hln : X.env.kindOf n = some .local)
      (hsu : ∀ (a : Addr) (oe : Obj) (cls : Value) (d : Option Addr) (pn : List (Addr × Obj)), Zc cls d oe → (∃ vs, oe.data = .fields vs) → PSs (X.suite a ((a, oe) :: pn)) (b0 :: su) (ts a cls d)) (r : MixOk X hds l) :
      MixOk X (.ExceptHandler (some (.Name x np)) (some n) (b0 :: su) p' :: hds) ((c, some i, ts) :: l)
section
variable {X : Cx} {body : List Stmt} {h0 : ExceptHandler} {hds : List ExceptHandler} {l : List Cl} {pos : Pos} {tb : WX → TS} {Wo : WX}
theorem ps_try_mix (hst : X.stack = X.env :: X.outer) (hfm : X.env.frame = some X.env.locals) (hN : X.N.Nodup) (tk : Takes X Wo)
    (hb : ∀ (W : WX) (pn : List (Addr × Obj)) (xe : Value → Shared → Prop), Takes (X.tr pn xe) W → PassesOwn (model X.prog X.w) X.A X.env xe → PSs (X.tr pn xe) body (tb W))
    (hh : MixOk X (h0 :: hds) l) : PS X (.Try body (h0 :: hds) [] [] pos) (fun D σ H => tb (wMix X.K Wo D l) D σ H) := by
  refine ⟨fun pins s σ H D In hyp => ?_⟩
  have oX := In.ok
  have hframes : X.A.frames = some (X.env :: X.outer) := by rw [oX.frames, hst]
  refine wpAny_Try_except ?_
  refine wpAny_mono ((hb (wMix X.K Wo D l) (X.pn ++ pins) (fun e s₁ => wpAny (model X.prog X.w) X.A (noteFrame e X.env) (fun _ s₂ => wpAny (model X.prog X.w) X.A (setFlight e none) (fun _ s₃ => wpAny (model X.prog X.w) X.A (handleBy e X.env (h0 :: hds)) (SP X pins D) X.xe s₃) X.xe s₂) X.xe s₁) (fun u s' xx => ?_) PassesOwn.looking).run [] s σ H D (In.toTry _) hyp) (fun f s1 hsp => ?_) (fun e s1 he => he)
  · obtain ⟨a, B, sI, pins', σ', H', cls, d, rfl, Jt, nb, up, sky, na, os, ag, w⟩ := xx
    have J : L2.Inv X pins σ' H' sI := Jt.ofTry oX
    have skyB : Sky B (X.env :: X.outer) a (Zc cls d) X.env.locals s'.heap := by rw [← hst]; exact sky
    show wpAny (model X.prog X.w) X.A (noteFrame (.ref a) X.env) _ _ _; refine Sky.land Zc.steady hframes hfm skyB fun h3 fl3 up3 => ?_
    have J3 : L2.Inv X pins σ' H' { s' with heap := h3 } := J.landed nb fl3.1 (up.trans up3) os ag
    obtain ⟨oe3, vs3, he3, hz3, hd3⟩ := fl3.there
    have nfr : a ∉ frs (X.env :: X.outer) := fun hm => by
      obtain ⟨_, o', e', hnf⟩ := fl3.2.2.1.mem hm
      rw [he3] at e'; cases e'; exact hnf _ hd3
    have nLoc : a ≠ X.env.locals := fun z => nfr (List.mem_filterMap.mpr ⟨X.env, List.mem_cons_self, by rw [hfm, z]⟩)
    have nFs : a ∉ X.fs := fun hm => by
      obtain ⟨e, he, q⟩ := List.mem_filterMap.mp hm; exact nfr (List.mem_filterMap.mpr ⟨e, List.mem_cons_of_mem _ he, q⟩)
    have S3 := J3.suite he3 hd3 na nLoc nFs
    have LT : PySem.W.Looks (model X.prog X.w) h3 (typeOf (.ref a)) cls := fun A Q E s k q => wpAny_typeOf_ref (k _ _ he3) (by rw [hz3.1]; exact q)
    have look : ∀ {x : Str} {c : Value} {np : Pos}, Names X x c → ∀ {Q : Value → Shared → Prop} {E : Value → Shared → Prop}, Q c { s' with heap := h3 } → wpAny (model X.prog X.w) (X.A.mark (some (.ref a))) (eval (.Name x np) X.env) Q E { s' with heap := h3 } := fun {x c np} hc {Q E} q => by
      obtain ⟨hg, hdbg, hm | ⟨hm, hv, hnn⟩⟩ := hc
      · exact ld_glob (X := X.suite a ((a, oe3) :: (X.pn ++ pins))) S3 hg hm q hdbg
      · exact ld_blt (X := X.suite a ((a, oe3) :: (X.pn ++ pins))) S3 hg hm hv q hnn hdbg
    have go : ∀ {hds' : List ExceptHandler} {l' : List Cl}, MixOk X hds' l' → wMix X.K Wo D l' cls d σ' H' → wpAny (model X.prog X.w) X.A (handleBy (.ref a) X.env hds') (SP X pins D) X.xe { s' with heap := h3 } := by
      intro hds' l' hk
      induction hk with
      | nil =>
        intro w
        refine wpAny_handleBy_nil ?_
        obtain ⟨k1, k2, k3, oe, vs, T, oT, ts', he, hz, hd, h1, hr⟩ := id fl3
        unfold PySem.passOn; refine wpAny_bind (wpAny_field he hd h1 ?_)
        rw [if_neg (show ¬ ((Value.ref T == Value.none) = true) by simp)]
        have fin : wpAny (model X.prog X.w) X.A (setFlight (.ref a) X.env.frame) (fun _ s4 => wpAny (model X.prog X.w) X.A (throw (.ref a) : Sem Flow) (SP X pins D) X.xe s4) X.xe { s' with heap := h3 } := by
          rw [hfm]; refine HandSPX.setFlight_upZ fl3 fun h4 hh4 up4 => wpAny_throw (tk _ _ ⟨a, B, sI, pins, σ', H', cls, d, rfl, J, nb, (up.trans up3).trans up4, .inr (.inr (by rw [hst]; exact hh4)), na, os, ag, w⟩)
        first
          | exact wpAny_bind (wpAny_pure (wpAny_bind fin))
          | exact wpAny_bind fin
      | @only x c ts b0 su np p' hds2 l2 hc hsu r ih =>
        intro w
        obtain ⟨b, hb1, hyes, hno⟩ := w
        refine wpAny_handleBy_cons (codeAny_handlers_test ?_) (by intro q; cases q); refine look hc ((PySem.W.exm_one (M := model X.prog X.w) (J3.kIn) LT hb1).here ?_)
        cases b with
        | false => show wpAny _ X.A (handleBy (.ref a) X.env hds2) _ _ _; exact ih (hno rfl)
        | true =>
          refine codeAny_handlers_suite (HandSPX.lands_againZ fl3 fun h4 fl4 up4 => ?_)
          have J4 : L2.Inv X pins σ' H' { s' with heap := h4 } := J.landed nb fl4.1 ((up.trans up3).trans up4) os ag
          obtain ⟨oe4, vs4, he4, hz4, hd4⟩ := fl4.there
          have S4 := J4.suite he4 hd4 na nLoc nFs
          refine wpAny_mono ((hsu a oe4 cls d (X.pn ++ pins) hz4 ⟨_, hd4⟩).run [] _ _ H' _ S4 (hyes rfl a na)) (fun f s6 hsp => ?_) (fun _ _ z => False.elim z)
          cases f with
          | ret u => obtain ⟨v6, σ6, H6, S6, r6, q6⟩ := hsp; exact ⟨_, _, _, S6.unsuite oX, r6, q6⟩
          | next => obtain ⟨σ6, H6, S6, q6⟩ := hsp; exact ⟨_, _, S6.unsuite oX, q6⟩
          | brk => obtain ⟨σ6, H6, S6, q6⟩ := hsp; exact ⟨_, _, S6.unsuite oX, q6⟩
          | cont => obtain ⟨σ6, H6, S6, q6⟩ := hsp; exact ⟨_, _, S6.unsuite oX, q6⟩
      | @named x n i c ts b0 su np p' hds2 l2 hc hi hln hsu r ih =>
        intro w
        obtain ⟨b, hb1, hyes, hno⟩ := w
        refine wpAny_handleBy_cons (codeAny_handlers_test ?_) (by intro q; cases q); refine look hc ((PySem.W.exm_one (M := model X.prog X.w) (J3.kIn) LT hb1).here ?_)
        cases b with
        | false => show wpAny _ X.A (handleBy (.ref a) X.env hds2) _ _ _; exact ih (hno rfl)
        | true =>
          refine codeAny_handlers_suite_as (HandSPX.lands_againZ fl3 fun h4 fl4 up4 => ?_)
          have J4 : L2.Inv X pins σ' H' { s' with heap := h4 } := J.landed nb fl4.1 ((up.trans up3).trans up4) os ag
          obtain ⟨oe4, vs4, he4, hz4, hd4⟩ := fl4.there
          have S4 := J4.suite he4 hd4 na nLoc nFs
          have hloc : Loc X.env.scope n := .inl hln
          refine store_ok (X := X.suite a ((a, oe4) :: (X.pn ++ pins))) (v := .ref a) S4 hN hi hloc rfl (fun s5 S5 => ?_) (.inr hln)
          refine wpAny_mono ((hsu a oe4 cls d (X.pn ++ pins) hz4 ⟨_, hd4⟩).run [] s5 _ H' _ S5 (hyes rfl a na)) (fun f s6 hsp => ?_) (fun _ _ z => False.elim z)
          have fin6 : ∀ {σ6 : L2.St} {H6 : Hp} {Q : Shared → Prop}, L2.Inv (X.suite a ((a, oe4) :: (X.pn ++ pins))) [] σ6 H6 s6 → (∀ s7, L2.Inv X pins (σ6.set i none) H6 s7 → Q s7) →
              wpAny (model X.prog X.w) X.A (do bindName X.env n .none; unbindBehindTheSuite X.env n p') (fun _ s7 => Q s7) X.xe s6 := fun {σ6 H6 Q} S6 hq => gone_ok (S6.unsuite oX) hN hi hln hq
          cases f with
          | ret u => obtain ⟨v6, σ6, H6, S6, r6, q6⟩ := hsp; exact fin6 S6 fun s7 J7 => ⟨_, _, _, J7, r6, q6⟩
          | next => obtain ⟨σ6, H6, S6, q6⟩ := hsp; exact fin6 S6 fun s7 J7 => ⟨_, _, J7, q6⟩
          | brk => obtain ⟨σ6, H6, S6, q6⟩ := hsp; exact fin6 S6 fun s7 J7 => ⟨_, _, J7, q6⟩
          | cont => obtain ⟨σ6, H6, S6, q6⟩ := hsp; exact fin6 S6 fun s7 J7 => ⟨_, _, J7, q6⟩
    exact go hh w
  · cases f with
    | next => obtain ⟨σ', H', J', q⟩ := hsp; exact wpAny_execs_nil ⟨σ', H', J'.ofTry oX, q⟩
    | brk => obtain ⟨σ', H', J', q⟩ := hsp; exact ⟨σ', H', J'.ofTry oX, q⟩
    | cont => obtain ⟨σ', H', J', q⟩ := hsp; exact ⟨σ', H', J'.ofTry oX, q⟩
    | ret u => obtain ⟨v, σ', H', J', r, q⟩ := hsp; exact ⟨v, σ', H', J'.ofTry oX, r, q⟩
end
end VL
end
section
set_option Elab.async false
set_option linter.all false
set_option maxRecDepth 100000
namespace VL
open PySem PySem.Spec PyProof.Rows L2
variable [LawTabs]
/-! ### comprehensions with two clauses -/
open Classical in
noncomputable def lcM2 (t : TF) (tt : BF) (fi1 : IF) (t1 : TF) (tt1 : BF) (fe : EF) (vs1 : List Nat) (src : Option Nat) (all : List PyData) : List PyData → Rho → Mu → Option (List PyData × Mu)
  | [], ρ, μ => if srcOk src all μ then some ([], μ) else none
  | d :: ds, ρ, μ => if srcOk src all μ then (match t (.d d) ρ with
    | none => none
    | some ρ1 => match tt ρ1 μ with
      | some (true, μ1) => (match fi1 ρ1 μ1 with
        | some (ds1, src1, μ2) => (match lcM t1 tt1 fe src1 ds1 ds1 (wipeR ρ1 vs1) μ2 with
          | some (ps1, μ3) => (lcM2 t tt fi1 t1 tt1 fe vs1 src all ds ρ μ3).map fun r => (ps1 ++ r.1, r.2)
          | none => none)
        | none => none)
      | some (false, μ1) => lcM2 t tt fi1 t1 tt1 fe vs1 src all ds ρ μ1
      | none => none)
    else none
@[simp] noncomputable def eLc2 (fi : IF) (t : TF) (tt : BF) (fi1 : IF) (t1 : TF) (tt1 : BF) (fe : EF) (vs vs1 : List Nat) (ρ : Rho) (μ : Mu) : Option (Vw × Mu) := match fi ρ μ with
  | some (ds, src, μ1) => (match lcM2 t tt fi1 t1 tt1 fe vs1 src ds ds (wipeR ρ vs) μ1 with
    | some (ps, μ2) => if ps.length ≤ 1000000 then some (.d (.list ps), μ2) else none
    | none => none)
  | none => none
/-- the inner loop -/
theorem lc_in {K : PySem.W.Frag} {t : TF} {tt : BF} {fe : EF} {src : Option Nat} {ds : List PyData} {ws vs : List Nat} {J : It} {φ0 φ : Ph} {H0 H : Hp} {σ : L2.St} {ρ : Rho} {μ μ9 : Mu} {acc ps : List PyData} {D : Addr} {Qd : Hp → Prop}
    (l0 : LcAt K φ0 φ H0 H D μ acc) (hD : H0 D = none) (rs : RS K φ σ H ρ μ) (wk : Wk K φ H ds src J)
    (hvs : ∀ i ∈ ws, i ∈ vs) (e : lcM t tt fe src ds ds (wipeR ρ vs) μ = some (ps, μ9)) (hlen : (acc ++ ps).length ≤ 1000000) (hd : ∀ φ2 H2, LcAt K φ0 φ2 H0 H2 D μ9 (acc ++ ps) → Qd H2) :
    ∃ W : Nat → Nat → Hp → Prop, (∃ m, W 0 m H) ∧ ∀ i m H, W i m H →
      (J.stop i H ∧ Qd H) ∨ (J.go i H ∧ ∃ Nx : Hp → Prop, (∀ H', Nx H' → ∃ m', m' < m ∧ W (i + 1) m' H') ∧ ∀ x H', J.yld i H x H' → tG K t ws x (L2.wipe σ vs) H' fun σ2 H2 => L2.wipe σ2 vs = L2.wipe σ vs ∧ tT K tt σ2 H2 fun b H3 =>
        if b = true then tE K fe σ2 H3 fun y H4 => ∃ acc, H4 D = some (.lst acc) ∧ acc.length < sizeLine ∧ Nx (upd H4 D (.lst (acc ++ [y]))) else Nx H3) := by
  refine ⟨fun i m H' => m = ds.length - i ∧ ∃ φ2 μ2 acc2 rest, LcAt K φ0 φ2 H0 H' D μ2 acc2 ∧ GrowW φ φ2 H H' ∧ lcM t tt fe src ds (ds.drop i) (wipeR ρ vs) μ2 = some (rest, μ9) ∧ acc2 ++ rest = acc ++ ps, ⟨_, rfl, _, μ, acc, ps, l0, (Grow.refl φ H).w, e, rfl⟩, ?_⟩
  rintro i m H2 ⟨rfl, φ2, μ2, acc2, rest, l, gw, e2, eps⟩
  cases hdi : ds.drop i with
  | nil =>
    rw [hdi] at e2
    unfold lcM at e2
    split at e2
    · rename_i hsrc
      cases e2
      rw [List.append_nil] at eps
      subst eps
      exact .inl ⟨(wk φ2 H2 _ gw l.c hsrc i).2 (List.drop_eq_nil_iff.mp hdi), hd φ2 H2 l⟩
    · cases e2
  | cons d r =>
    rw [hdi] at e2
    have hil : i < ds.length := by
      by_cases z : i < ds.length
      · exact z
      · rw [List.drop_eq_nil_iff.mpr (by omega)] at hdi; cases hdi
    have hdg : ds[i]? = some d := by
      have := List.getElem?_drop (xs := ds) (i := i) (j := 0)
      rw [hdi] at this
      simpa using this.symm
    have hdr : ds.drop (i + 1) = r := by
      have : (ds.drop i).drop 1 = ds.drop (i + 1) := by rw [List.drop_drop]
      rw [← this, hdi]; rfl
    unfold lcM at e2
    split at e2
    · rename_i hsrc
      obtain ⟨go, hy⟩ := (wk φ2 H2 μ2 gw l.c hsrc i).1 d hdg
      refine .inr ⟨go, fun H' => ∃ φ2 μ2 acc2 rest, LcAt K φ0 φ2 H0 H' D μ2 acc2 ∧ GrowW φ φ2 H H' ∧ lcM t tt fe src ds (ds.drop (i + 1)) (wipeR ρ vs) μ2 = some (rest, μ9) ∧ acc2 ++ rest = acc ++ ps, fun H' hN => ⟨ds.length - (i + 1), by omega, rfl, hN⟩, fun x H3 hyl => ?_⟩
      obtain ⟨g3, c3, hx⟩ := hy x H3 hyl
      have l3 := l.step g3 c3
      have gw3 := gw.trans g3.w
      split at e2
      · cases e2
      · rename_i ρ3 e3
        have rs3 : RS K φ2 (L2.wipe σ vs) H3 (wipeR ρ vs) μ2 := (rs.wipe vs).step gw3 c3
        refine ⟨φ2, _, μ2, .d d, ρ3, rs3, hx, e3, fun σ4 rs4 w4 => ⟨?_, ?_⟩⟩
        · rw [w4 vs hvs]
          exact wipe_same fun i hi z hz => (wipe_some hz).2 hi
        · split at e2
          · rename_i μ4 e4
            refine ⟨φ2, ρ3, μ2, true, μ4, rs4, e4, fun φ5 H5 g5 c5 => L2.iteT ?_⟩
            have l5 := l3.step g5 c5
            have gw5 := gw3.trans g5.w
            split at e2
            · rename_i p μ6 e6
              obtain ⟨⟨rest', μ7⟩, e7, e8⟩ := Option.map_eq_some_iff.mp e2
              cases e8
              refine ⟨φ5, ρ3, μ4, .d p, μ6, rs4.step g5.w c5, e6, fun φ8 y H8 g8 c8 r8 => ?_⟩
              have l8 := l5.step g8 c8
              obtain ⟨xs, hx1, hx2, l9⟩ := l8.add hD r8
              refine ⟨xs, hx1, ?_, φ8, μ6, acc2 ++ [p], rest', l9, (gw5.trans g8.w).trans (GrowW.wr l8.mem hx1), by rw [hdr]; exact e7, by rw [List.append_assoc]; exact eps⟩
              have : (acc2 ++ p :: rest').length ≤ 1000000 := by rw [show acc2 ++ p :: rest' = acc ++ ps from eps]; exact hlen
              rw [List.length_append, List.length_cons] at this
              exact size_lt (by omega)
            · cases e2
          · rename_i μ4 e4
            refine ⟨φ2, ρ3, μ2, false, μ4, rs4, e4, fun φ5 H5 g5 c5 => L2.iteF ?_⟩
            exact ⟨φ5, μ4, acc2, rest, l3.step g5 c5, gw3.trans g5.w, by rw [hdr]; exact e2, eps⟩
          · cases e2
    · cases e2
/-- the loop of both clauses -/
theorem lc2_loop {K : PySem.W.Frag} {t t1 : TF} {tt tt1 : BF} {fi1 : IF} {fe : EF} {src : Option Nat} {ds : List PyData} {ws ws1 vs vs1 : List Nat} {J : It} {φ : Ph} {H : Hp} {σ : L2.St} {ρ : Rho} {μ μ9 : Mu} {ps : List PyData} {D : Addr} {Qd : Hp → Prop} (rs : RS K φ σ H ρ μ) (wk : Wk K φ H ds src J) (hD : H D = none)
    (hvs : ∀ i ∈ ws, i ∈ vs) (hvs1 : ∀ i ∈ ws1, i ∈ vs1) (e : lcM2 t tt fi1 t1 tt1 fe vs1 src ds ds (wipeR ρ vs) μ = some (ps, μ9)) (hlen : ps.length ≤ 1000000) (hd : ∀ φ2 H2, LcAt K φ φ2 H H2 D μ9 ps → Qd H2) :
    ∃ W : Nat → Nat → Hp → Prop, (∃ m, W 0 m (upd H D (.lst []))) ∧ ∀ i m H, W i m H →
      (J.stop i H ∧ Qd H) ∨ (J.go i H ∧ ∃ Nx : Hp → Prop, (∀ H', Nx H' → ∃ m', m' < m ∧ W (i + 1) m' H') ∧ ∀ x H', J.yld i H x H' → tG K t ws x (L2.wipe σ vs) H' fun σ2 H2 => L2.wipe σ2 vs = L2.wipe σ vs ∧ tT K tt σ2 H2 fun b H3 =>
        if b = true then tI K fi1 σ2 H3 fun J1 H4 => ∃ W1 : Nat → Nat → Hp → Prop, (∃ m, W1 0 m H4) ∧ ∀ j k H, W1 j k H →
          (J1.stop j H ∧ Nx H) ∨ (J1.go j H ∧ ∃ Nx1 : Hp → Prop, (∀ H', Nx1 H' → ∃ k', k' < k ∧ W1 (j + 1) k' H') ∧ ∀ x H', J1.yld j H x H' → tG K t1 ws1 x (L2.wipe σ2 vs1) H' fun σ3 H5 => L2.wipe σ3 vs1 = L2.wipe σ2 vs1 ∧ tT K tt1 σ3 H5 fun b H6 =>
            if b = true then tE K fe σ3 H6 fun y H7 => ∃ acc, H7 D = some (.lst acc) ∧ acc.length < sizeLine ∧ Nx1 (upd H7 D (.lst (acc ++ [y]))) else Nx1 H6)
        else Nx H3) := by
  refine ⟨fun i m H' => m = ds.length - i ∧ ∃ φ2 μ2 acc rest, LcAt K φ φ2 H H' D μ2 acc ∧ lcM2 t tt fi1 t1 tt1 fe vs1 src ds (ds.drop i) (wipeR ρ vs) μ2 = some (rest, μ9) ∧ acc ++ rest = ps, ⟨_, rfl, _, μ, [], ps, LcAt.start rs.c hD, e, rfl⟩, ?_⟩
  rintro i m H2 ⟨rfl, φ2, μ2, acc, rest, l, e2, eps⟩
  cases hdi : ds.drop i with
  | nil =>
    rw [hdi] at e2
    unfold lcM2 at e2
    split at e2
    · rename_i hsrc
      cases e2
      rw [List.append_nil] at eps
      subst eps
      exact .inl ⟨(wk φ2 H2 _ l.g.w l.c hsrc i).2 (List.drop_eq_nil_iff.mp hdi), hd φ2 H2 l⟩
    · cases e2
  | cons d r =>
    rw [hdi] at e2
    have hil : i < ds.length := by
      by_cases z : i < ds.length
      · exact z
      · rw [List.drop_eq_nil_iff.mpr (by omega)] at hdi; cases hdi
    have hdg : ds[i]? = some d := by
      have := List.getElem?_drop (xs := ds) (i := i) (j := 0)
      rw [hdi] at this
      simpa using this.symm
    have hdr : ds.drop (i + 1) = r := by
      have : (ds.drop i).drop 1 = ds.drop (i + 1) := by rw [List.drop_drop]
      rw [← this, hdi]; rfl
    unfold lcM2 at e2
    split at e2
    · rename_i hsrc
      obtain ⟨go, hy⟩ := (wk φ2 H2 μ2 l.g.w l.c hsrc i).1 d hdg
      refine .inr ⟨go, fun H' => ∃ φ2 μ2 acc rest, LcAt K φ φ2 H H' D μ2 acc ∧ lcM2 t tt fi1 t1 tt1 fe vs1 src ds (ds.drop (i + 1)) (wipeR ρ vs) μ2 = some (rest, μ9) ∧ acc ++ rest = ps, fun H' hN => ⟨ds.length - (i + 1), by omega, rfl, hN⟩, fun x H3 hyl => ?_⟩
      obtain ⟨g3, c3, hx⟩ := hy x H3 hyl
      have l3 := l.step g3 c3
      split at e2
      · cases e2
      · rename_i ρ3 e3
        have rs3 : RS K φ2 (L2.wipe σ vs) H3 (wipeR ρ vs) μ2 := (rs.wipe vs).step l3.g.w c3
        refine ⟨φ2, _, μ2, .d d, ρ3, rs3, hx, e3, fun σ4 rs4 w4 => ⟨?_, ?_⟩⟩
        · rw [w4 vs hvs]
          exact wipe_same fun i hi z hz => (wipe_some hz).2 hi
        · split at e2
          · rename_i μ4 e4
            refine ⟨φ2, ρ3, μ2, true, μ4, rs4, e4, fun φ5 H5 g5 c5 => L2.iteT ?_⟩
            have l5 := l3.step g5 c5
            have rs5 := rs4.step g5.w c5
            split at e2
            · rename_i ds1 src1 μ6 e6
              split at e2
              · rename_i ps1 μ7 e7
                obtain ⟨⟨rest', μ8⟩, e8, e9⟩ := Option.map_eq_some_iff.mp e2
                cases e9
                refine ⟨φ5, ρ3, μ4, ds1, src1, μ6, rs5, e6, fun φ6 J1 H6 g6 c6 wk6 => ?_⟩
                have hl2 : (acc ++ ps1).length ≤ 1000000 := by
                  have : (acc ++ (ps1 ++ rest')).length ≤ 1000000 := by rw [show acc ++ (ps1 ++ rest') = ps from eps]; exact hlen
                  simp only [List.length_append] at this ⊢
                  omega
                exact lc_in (l5.step g6 c6) hD (rs5.step g6.w c6) wk6 hvs1 e7 hl2 fun φ9 H9 l9 => ⟨φ9, μ7, acc ++ ps1, rest', l9, by rw [hdr]; exact e8, by rw [List.append_assoc]; exact eps⟩
              · cases e2
            · cases e2
          · rename_i μ4 e4
            refine ⟨φ2, ρ3, μ2, false, μ4, rs4, e4, fun φ5 H5 g5 c5 => L2.iteF ?_⟩
            exact ⟨φ5, μ4, acc, rest, l3.step g5 c5, by rw [hdr]; exact e2, eps⟩
          · cases e2
    · cases e2
theorem tE_lc2 {K : PySem.W.Frag} {fi fi1 : IF} {t t1 : TF} {tt tt1 : BF} {fe : EF} {ws ws1 vs vs1 : List Nat} (hvs : ∀ i ∈ ws, i ∈ vs) (hvs1 : ∀ i ∈ ws1, i ∈ vs1) : ∀ σ H Q, tE K (eLc2 fi t tt fi1 t1 tt1 fe vs vs1) σ H Q → tLc2 (tI K fi) (tG K t ws) (tT K tt) (tI K fi1) (tG K t1 ws1) (tT K tt1) (tE K fe) vs vs1 σ H Q := fun σ H Q ⟨φ, ρ, μ, w, μ', rs, e, k⟩ => by
  unfold eLc2 at e
  split at e
  · rename_i ds src μ1 e1
    split at e
    · rename_i ps μ2 e2
      split at e
      · rename_i hl
        cases e
        refine ⟨φ, ρ, μ, ds, src, μ1, rs, e1, fun φ1 J H1 g1 c1 wk D hD => ?_⟩
        exact lc2_loop (rs.step g1.w c1) wk hD hvs hvs1 e2 hl fun φ2 H2 l => l.endD c1 hD fun φ3 v3 H3 g3 c3 r3 => k φ3 v3 H3 (g1.trans g3) c3 r3
      · cases e
    · cases e
  · cases e
section
variable {X : Cx} {elt tg iter tg1 iter1 : Expr} {ifs ifs1 : List Expr} {scope : Scope} {own : List (Str × Nat)} {pos : Pos} {fi fi1 : IF} {t t1 : TF} {tt tt1 : BF} {fe : EF} {ws ws1 vs1 : List Nat}
theorem ej_lc2 (hc : X.calm = true) (hN : X.N.Nodup) (hi : PI X tg iter (tI X.K fi)) (ok : BlkOk X.N X.env.scope scope own) (hvs : ∀ i ∈ ws, i ∈ own.map (·.2)) (hvs1 : ∀ i ∈ ws1, i ∈ vs1) (hv1 : ∀ i ∈ vs1, i ∈ own.map (·.2))
    (hg : ∀ (s : Shared) (H : Hp) (C : Addr) (cl : List (Str × Addr)) (fp : List Addr), PG (X.blk s H scope (compEnvC scope cl C X.env) fp) tg (tG X.K t ws)) (ht : ∀ (s : Shared) (H : Hp) (C : Addr) (cl : List (Str × Addr)) (fp : List Addr), PTs (X.blk s H scope (compEnvC scope cl C X.env) fp) ifs (tT X.K tt))
    (hi1 : ∀ (s : Shared) (H : Hp) (C : Addr) (cl : List (Str × Addr)) (fp : List Addr), PI (X.blk s H scope (compEnvC scope cl C X.env) fp) tg1 iter1 (tI X.K fi1))
    (hg1 : ∀ (s : Shared) (H : Hp) (C : Addr) (cl : List (Str × Addr)) (fp : List Addr), PG (X.blk s H scope (compEnvC scope cl C X.env) fp) tg1 (tG X.K t1 ws1)) (ht1 : ∀ (s : Shared) (H : Hp) (C : Addr) (cl : List (Str × Addr)) (fp : List Addr), PTs (X.blk s H scope (compEnvC scope cl C X.env) fp) ifs1 (tT X.K tt1))
    (he : ∀ (s : Shared) (H : Hp) (C : Addr) (cl : List (Str × Addr)) (fp : List Addr), PE (X.blk s H scope (compEnvC scope cl C X.env) fp) elt (tE X.K fe)) (hs : ∀ x, foldedSetIterable iter X.env x = pure x := by intro _; rfl) (hs1 : ∀ env x, foldedSetIterable iter1 env x = pure x := by intro _ _; rfl) :
    PE X (.ListComp elt [⟨tg, iter, ifs, 0⟩, ⟨tg1, iter1, ifs1, 0⟩] scope pos) (tE X.K (eLc2 fi t tt fi1 t1 tt1 fe (own.map (·.2)) vs1)) := PE.to (pe_lc2 hc hN hi ok hv1 hg ht hi1 hg1 ht1 he hs hs1) (tE_lc2 hvs hvs1)
/-- name = [.. for .. for ..] -/
theorem sj_setLc2 {i : Nat} {y : Str} {py : Pos} {spos : Pos} (hc : X.calm = true) (hN : X.N.Nodup) (hi : PI X tg iter (tI X.K fi)) (ok : BlkOk X.N X.env.scope scope own) (hvs : ∀ i ∈ ws, i ∈ own.map (·.2)) (hvs1 : ∀ i ∈ ws1, i ∈ vs1) (hv1 : ∀ i ∈ vs1, i ∈ own.map (·.2))
    (hg : ∀ (s : Shared) (H : Hp) (C : Addr) (cl : List (Str × Addr)) (fp : List Addr), PG (X.blk s H scope (compEnvC scope cl C X.env) fp) tg (tG X.K t ws)) (ht : ∀ (s : Shared) (H : Hp) (C : Addr) (cl : List (Str × Addr)) (fp : List Addr), PTs (X.blk s H scope (compEnvC scope cl C X.env) fp) ifs (tT X.K tt))
    (hi1 : ∀ (s : Shared) (H : Hp) (C : Addr) (cl : List (Str × Addr)) (fp : List Addr), PI (X.blk s H scope (compEnvC scope cl C X.env) fp) tg1 iter1 (tI X.K fi1))
    (hg1 : ∀ (s : Shared) (H : Hp) (C : Addr) (cl : List (Str × Addr)) (fp : List Addr), PG (X.blk s H scope (compEnvC scope cl C X.env) fp) tg1 (tG X.K t1 ws1)) (ht1 : ∀ (s : Shared) (H : Hp) (C : Addr) (cl : List (Str × Addr)) (fp : List Addr), PTs (X.blk s H scope (compEnvC scope cl C X.env) fp) ifs1 (tT X.K tt1))
    (he : ∀ (s : Shared) (H : Hp) (C : Addr) (cl : List (Str × Addr)) (fp : List Addr), PE (X.blk s H scope (compEnvC scope cl C X.env) fp) elt (tE X.K fe)) (hy : X.N[i]? = some y := by rfl) (hyl : X.env.scope.names.lookup y = some .local := by rfl)
    (hsw : swapsWith (.ListComp elt [⟨tg, iter, ifs, 0⟩, ⟨tg1, iter1, ifs1, 0⟩] scope pos) (some (.Name y py)) spos.line X.env = pure true := by exact sw_true rfl rfl rfl (by decide +kernel)) (hs : ∀ x, foldedSetIterable iter X.env x = pure x := by intro _; rfl) (hs1 : ∀ env x, foldedSetIterable iter1 env x = pure x := by intro _ _; rfl) :
    PS X (.Assign [.Name y py] (.ListComp elt [⟨tg, iter, ifs, 0⟩, ⟨tg1, iter1, ifs1, 0⟩] scope pos) spos) (tS X.K (sAsg (eLc2 fi t tt fi1 t1 tt1 fe (own.map (·.2)) vs1) (tNm i))) := PS.to (ps_setLc2 hc hN hy hyl hsw hi ok hv1 hg ht hi1 hg1 ht1 he hs hs1) fun D σ H q => by
  refine tE_lc2 hvs hvs1 σ H _ ?_
  obtain ⟨φ, ρ, μ, w, μ1, rs, e1, k⟩ := tS_asg (vs := [i]) D σ H q
  refine ⟨φ, ρ, μ, w, μ1, rs, e1, fun φ1 v1 H1 g1 c1 r1 => ?_⟩
  obtain ⟨φ2, ρ2, μ2, w2, ρ3, rs2, rv2, e2, k2⟩ := k φ1 v1 H1 g1 c1 r1
  cases e2
  exact k2 _ (rs2.put rv2) fun us hu => wipe_put (hu i (by simp))
end
end VL
end
section
set_option Elab.async false
set_option linter.all false
set_option maxRecDepth 100000
set_option maxHeartbeats 2000000
/-! ### of tuples: sorted, set, extend -/
namespace VL
open PySem PyProof.Rows
section
variable {prog : Program} {w : World} {A : Around} {E : Value → Shared → Prop} {s : Shared}
theorem col_tup {l : Addr} {vs : List Value} {Q : List Value → Shared → Prop} (hl : IsTup s.heap l vs.toArray) (hsz : vs.length ≤ sizeLine)
    (h : Q vs { s with heap := (s.heap.push (seqObj "list" #[] 0)).update s.heap.objs.size (Obj.mapSeq (· ++ vs.toArray)) }) : wpAny (model prog w) A (collect (.ref l)) Q E s := by
  obtain ⟨o, ho, hc, n, hd⟩ := id hl
  unfold collect; refine wpAny_bind (wpAny_runValue (codeAny_builtin entry_proto_collect' ?_))
  show wpAny _ _ (do again (.builtin "list.__iadd__" ⟨[← newList [], .ref l], []⟩)) _ _ s; refine wpAny_bind (wpAny_newList (wpAny_pure ⟨Code.quiet_builtin _ (by decide +kernel), codeAny_builtin entry_list_iadd' ?_⟩))
  show wpAny _ _ (Builtin.List.listExtendWith (.ref s.heap.objs.size) (.ref l) (.ref s.heap.objs.size)) _ _ { s with heap := s.heap.push (seqObj "list" #[] 0) }; unfold Builtin.List.listExtendWith
  have hot : (s.heap.push (seqObj "list" #[] 0)).get? l = some o := Heap.get?_push_of_some _ ho
  refine wpAny_bind (wpAny_typeOf (T := "tuple") ⟨o, hot, hc⟩ ?_)
  rw [if_pos (by rw [show (Value.type "tuple" == Value.type "tuple") = true from rfl]; simp)]
  refine wpAny_bind (listItems_at hot hd (wpAny_bind (listItems_at (xs := #[]) (n := 0) (Heap.get?_push_size _ rfl) rfl ?_)))
  rw [if_neg (by simp)]; refine wpAny_bind (listUpdate_at (xs := #[]) (n := 0) (Heap.get?_push_size _ rfl) rfl (wpAny_pure ?_) (Nat.zero_le _) (by show (#[] ++ vs.toArray).size ≤ sizeLine + 1; simp only [Array.size_append, List.size_toArray, List.length_nil]; omega))
  refine wpAny_bind (m := load s.heap.objs.size) (wpAny_load (get?_update_seq (Heap.get?_push_size _ rfl) _) ?_)
  show wpAny _ _ (pure ((#[] : Array Value) ++ vs.toArray).toList) Q E _
  rw [show ((#[] : Array Value) ++ vs.toArray).toList = vs by simp]; exact wpAny_pure h
theorem srt_tup {l : Addr} {vs : List Value} {ltv : Value → Value → Bool} {Q : Value → Shared → Prop} (O : SrtO.Swo ltv) (hl : IsTup s.heap l vs.toArray) (hz : vs.length ≤ sizeLine)
    (hS : 2 ≤ vs.length → ∀ (h₁ : Heap) (a : Addr), h₁.get? a = some (seqObj "list" vs.toArray 0) → (∀ b o, s.heap.get? b = some o → b ≠ a ∧ h₁.get? b = some o) → SrtO.SortableO prog w A.in1.in1 { s with heap := h₁ } a vs ltv)
    (h : ∀ out : List Value, SrtO.Srtd ltv out → SrtO.Stb ltv out vs → Q (.ref (s.heap.objs.size + 1)) { s with heap := sortedAll s.heap vs out.toArray }) : wpAny (model prog w) A (call (.builtin "sorted") [.ref l]) Q E s := by
  refine Calls.call_function_entry kind_sorted plain_sorted entry_sorted (args_sorted1 _) ?_; unfold Builtin.«sorted»
  refine wpAny_bind (m := checkCount "sorted" 1 1 _) (wpAny_pure (wpAny_bind (col_tup hl hz (wpAny_bind (wpAny_newList ?_ hz)))))
  have hs1 : ((s.heap.push (seqObj "list" #[] 0)).update s.heap.objs.size (Obj.mapSeq (· ++ vs.toArray))).objs.size = s.heap.objs.size + 1 := by rw [Heap.size_update, size_push']
  have hob : (((s.heap.push (seqObj "list" #[] 0)).update s.heap.objs.size (Obj.mapSeq (· ++ vs.toArray))).push (seqObj "list" vs.toArray 0)).get? (s.heap.objs.size + 1) = some (seqObj "list" vs.toArray 0) := by rw [← hs1]; exact Heap.get?_push_size _ rfl
  have kp : ∀ b o, s.heap.get? b = some o → b ≠ s.heap.objs.size + 1 ∧ (((s.heap.push (seqObj "list" #[] 0)).update s.heap.objs.size (Obj.mapSeq (· ++ vs.toArray))).push (seqObj "list" vs.toArray 0)).get? b = some o := fun b o q => by
    have hlt : b < s.heap.objs.size := Heap.lt_size q
    exact ⟨Nat.ne_of_lt (Nat.lt_succ_of_lt hlt), Heap.get?_push_of_some _ (by rw [Heap.get?_update_ne _ _ _ _ (Nat.ne_of_lt hlt)]; exact Heap.get?_push_of_some _ q)⟩
  show wpAny _ _ _ _ _ { s with heap := ((s.heap.push (seqObj "list" #[] 0)).update s.heap.objs.size (Obj.mapSeq (· ++ vs.toArray))).push (seqObj "list" vs.toArray 0) }; rw [hs1]
  refine wpAny_bind (wpAny_holding (wpAny_call_entry slot_list_sort ⟨_, hob, rfl⟩ entry_list_sort (SrtO.list_sort_ord O hob hz (fun h2 => hS h2 _ _ hob kp) fun out hs hb => ⟨_, rfl, wpAny_pure ⟨_, rfl, h out hs hb⟩⟩) (args_list_sort _)))
theorem ext_tup {l b : Addr} {xs ys : Array Value} {n : Nat} {Q : Value → Shared → Prop} (ho : s.heap.get? l = some { cls := .type "list", data := .seq xs n }) (hb : IsTup s.heap b ys) (hz : xs.size + ys.size ≤ 1000000)
    (h : Q .none { s with heap := s.heap.update l (Obj.mapSeq (· ++ ys)) }) : wpAny (model prog w) A (call (.builtin "list.extend") [.ref l, .ref b]) Q E s := by
  obtain ⟨o, hob, hc, m, hd⟩ := id hb
  refine wpAny_call_entry F.slot_list_extend ⟨_, ho, rfl⟩ F.entry_list_extend ?_ (F.args_list_extend_2 _ _)
  unfold Builtin.«list.extend»; refine wpAny_bind (m := selfAndOne "list.extend" _) (wpAny_pure ?_)
  show wpAny _ _ (Builtin.List.listExtendWith (.ref l) (.ref b) .none) _ _ _; unfold Builtin.List.listExtendWith
  refine wpAny_bind (wpAny_typeOf (T := "tuple") ⟨o, hob, hc⟩ ?_)
  rw [if_pos (by rw [show (Value.type "tuple" == Value.type "tuple") = true from rfl]; simp)]
  refine wpAny_bind (listItems_at hob hd (wpAny_bind (listItems_at ho rfl ?_)))
  have hs : 1000000 ≤ sizeLine := by rw [sizeLine_eq]; decide
  rw [if_neg (by rw [L2.notLongL (show xs.size + ys.size ≤ sizeLine by omega), Bool.and_false]; exact Bool.false_ne_true)]
  refine wpAny_bind (listUpdate_at ho rfl (wpAny_bind (wpAny_pure ?_)) (by omega) (by rw [Array.size_append]; omega))
  first
    | exact wpAny_pure ⟨_, rfl, h⟩
    | exact ⟨_, rfl, h⟩
end
end VL
namespace VL
open PySem PySem.Spec PyProof.Rows L2
variable [LawTabs]
section
variable {X : Cx}
/-- sorted(t), a tuple of whole numbers -/
def rSortedTI (K : PySem.W.Frag) : List V → Hp → VK → Prop := fun vs H Q => ∃ (a : Addr) (ns : List Int), vs = [V.ref a] ∧ SqT K H a (ns.map V.int) ∧ ∀ (ms : List Int) (p : Addr), ms.Perm ns → ms.Pairwise (· ≤ ·) → H p = none → Q (.ref p) (upd H p (.lst (ms.map V.int)))
theorem cr_sortedTI : CallR X (.builtin "sorted") (rSortedTI X.K) := by
  intro pins s σ H vs us Q I r h
  obtain ⟨a, ns, rfl, hs, q⟩ := h
  obtain ⟨its, rv, hl, hz⟩ := I.tuple hs
  rw [Vals.ref1 r]
  have hi := rv.ints
  refine srt_tup SrtO.swo_int hl (by rw [← rv.length]; exact hz) (fun h2 h₁ a' _ _ => SrtO.ints_sortable hi h2) fun out h1 h2 => ?_
  obtain ⟨k1, k2, k3⟩ := SrtO.ints_out hi h1 h2
  obtain ⟨ep, he⟩ := PyProof.Rows.sortedAll_at s.heap its out.toArray
  have hlen : ((out.map SrtO.iv).map V.int).length ≤ sizeLine := by rw [List.length_map, k2.length_eq]; rw [List.length_map] at hz; exact hz
  exact ⟨.ref _, upd H (s.heap.objs.size + 1) (.lst ((out.map SrtO.iv).map V.int)), I.laid (t' := s.toks) (fun _ _ => PyProof.Rows.sortedAll_old) (Nat.le_succ _) ⟨hlen, out, ep, vals_of_ints k1, he⟩, rfl, q _ _ k2 k3 (I.hok.fresh (Nat.le_succ _))⟩
def rSortedIT (K : PySem.W.Frag) : List V → Hp → VK → Prop := fun vs H Q => rSortedI K vs H Q ∨ rSortedTI K vs H Q
theorem cr_sortedIT : CallR X (.builtin "sorted") (rSortedIT X.K) := fun pins s σ H vs us Q I r h => h.elim (cr_sortedI pins s σ H vs us Q I r) (cr_sortedTI pins s σ H vs us Q I r)
/-- sorted lists of whole numbers, laid in one by one -/
def insI (x : Int) : List Int → List Int
  | [] => [x]
  | y :: l => if x ≤ y then x :: y :: l else y :: insI x l
def isrt (ns : List Int) : List Int := ns.foldr insI []
theorem insI_perm (x : Int) : ∀ l, (insI x l).Perm (x :: l)
  | [] => .refl _
  | y :: l => by
    unfold insI
    split
    · exact .refl _
    · exact ((insI_perm x l).cons y).trans (.swap x y l)
theorem insI_srt (x : Int) : ∀ l : List Int, l.Pairwise (· ≤ ·) → (insI x l).Pairwise (· ≤ ·)
  | [], _ => by simp [insI]
  | y :: l, h => by
    obtain ⟨h1, h2⟩ := List.pairwise_cons.mp h
    unfold insI
    split
    · rename_i hxy
      exact List.pairwise_cons.mpr ⟨fun z hz => (List.mem_cons.mp hz).elim (fun e => by rw [e]; exact hxy) fun e => Int.le_trans hxy (h1 z e), h⟩
    · rename_i hxy
      refine List.pairwise_cons.mpr ⟨fun z hz => ?_, insI_srt x l h2⟩
      rcases List.mem_cons.mp ((insI_perm x l).mem_iff.mp hz) with e | e
      · rw [e]; omega
      · exact h1 z e
theorem isrt_perm : ∀ ns, (isrt ns).Perm ns
  | [] => .refl _
  | x :: ns => (insI_perm x (isrt ns)).trans ((isrt_perm ns).cons x)
theorem isrt_srt : ∀ ns, (isrt ns).Pairwise (· ≤ ·)
  | [] => List.Pairwise.nil
  | x :: ns => insI_srt x _ (isrt_srt ns)
theorem isrt_eq {ns ms : List Int} (h : ms.Perm ns) (hs : ms.Pairwise (· ≤ ·)) : ms = isrt ns := (h.trans (isrt_perm ns).symm).eq_of_pairwise (fun a b _ _ h1 h2 => by omega) hs (isrt_srt ns)
@[simp] def oSortedIT (μ : Mu) (ws : List Vw) : Option Vw := match ws with
  | [.d (.tuple ds)] => (toI ds).map fun ns => .d (.list ((isrt ns).map PyData.int))
  | [w] => ((toL μ w).bind toI).map fun ns => .d (.list ((isrt ns).map PyData.int))
  | _ => none
theorem oSortedIT_ok {K : PySem.W.Frag} : OL K (rSortedIT K) oSortedIT := by
  intro φ H μ ws w vs Q c r e k
  unfold oSortedIT at e
  split at e
  · rename_i ds
    obtain ⟨v, rfl, r1⟩ := rvs1 r
    obtain ⟨ns, e1, e4⟩ := Option.map_eq_some_iff.mp e
    cases e4
    obtain ⟨a, xs, rfl, h1, h2⟩ := r1
    rw [toI_da e1 h2] at h1
    exact .inr ⟨a, ns, rfl, h1, fun ms p hp hs hn => by
      rw [isrt_eq hp hs]
      exact new_lst c (DaAll.ints (isrt ns)) k p hn⟩
  · rename_i z hne
    obtain ⟨v, rfl, r1⟩ := rvs1 r
    obtain ⟨ns, e1, e4⟩ := Option.map_eq_some_iff.mp e
    cases e4
    obtain ⟨ds, e2, e3⟩ := Option.bind_eq_some_iff.mp e1
    obtain ⟨a, xs, rfl, h1, h2⟩ := toL_ok c r1 e2
    rw [toI_da e3 h2] at h1
    exact .inl ⟨a, ns, rfl, h1, fun ms p hp hs hn => by
      rw [isrt_eq hp hs]
      exact new_lst c (DaAll.ints (isrt ns)) k p hn⟩
  · cases e
/-! sorted(set(t)), a tuple of whole numbers -/
def rSetTI (K : PySem.W.Frag) (w : World) : List V → Hp → VK → Prop := fun vs H Q => ∃ (p : Addr) (ns : List Int), vs = [.ref p] ∧ SqT K H p (ns.map V.int) ∧ ns.length ≤ 60 ∧ ∀ a c, H a = none → c ≤ ns.length → Q (.ref a) (upd H a (SetO w a (fun j => decide (j ∈ ns)) c))
theorem cr_setTI (hc : X.calm = true) : CallR X (.type "set") (rSetTI X.K X.w) := by
  intro pins s σ H vs us Q I r h
  obtain ⟨p, ns, rfl, hs, hl, q⟩ := h
  obtain ⟨its, rv, pt, hz⟩ := I.tuple hs
  rw [Vals.ref1 r]
  have hi : IntsAre its.toArray.toList ns := ints_of_vals rv
  refine call_set_tupI ns (I.ok.hd hc) (show s.heap.IsTuple p its.toArray from pt) hi (by unfold scanBound; omega) fun h' tk c R hcn k => ?_
  exact ⟨.ref _, upd H s.heap.objs.size (SetO X.w s.heap.objs.size (fun j => decide (j ∈ ns)) c), I.laid (t' := tk) k (Nat.le_refl _) (setO_new R), rfl, q _ c (I.hok.fresh (Nat.le_refl _)) hcn⟩
/-- strictly ascending, laid in one by one -/
def inU (x : Int) : List Int → List Int
  | [] => [x]
  | y :: l => if x < y then x :: y :: l else if x = y then y :: l else y :: inU x l
def usrt (ns : List Int) : List Int := ns.foldr inU []
theorem inU_mem (x z : Int) : ∀ l, z ∈ inU x l ↔ z = x ∨ z ∈ l
  | [] => by simp [inU]
  | y :: l => by
    unfold inU
    split
    · simp
    · split
      · rename_i h; subst h; simp
      · simp only [List.mem_cons, inU_mem x z l]; constructor <;> (intro h; rcases h with h | h | h <;> simp [h])
theorem inU_srt (x : Int) : ∀ l : List Int, l.Pairwise (· < ·) → (inU x l).Pairwise (· < ·)
  | [], _ => by simp [inU]
  | y :: l, h => by
    obtain ⟨h1, h2⟩ := List.pairwise_cons.mp h
    unfold inU
    split
    · rename_i hxy
      exact List.pairwise_cons.mpr ⟨fun z hz => (List.mem_cons.mp hz).elim (fun e => by rw [e]; exact hxy) fun e => Int.lt_trans hxy (h1 z e), h⟩
    · split
      · exact h
      · refine List.pairwise_cons.mpr ⟨fun z hz => ?_, inU_srt x l h2⟩
        rcases (inU_mem x z l).mp hz with e | e
        · rw [e]; omega
        · exact h1 z e
theorem usrt_mem (z : Int) : ∀ ns, z ∈ usrt ns ↔ z ∈ ns
  | [] => Iff.rfl
  | x :: ns => by
    show z ∈ inU x (usrt ns) ↔ _
    rw [inU_mem, usrt_mem z ns, List.mem_cons]
theorem usrt_srt : ∀ ns, (usrt ns).Pairwise (· < ·)
  | [] => List.Pairwise.nil
  | x :: ns => inU_srt x _ (usrt_srt ns)
theorem usrt_eq {ns ms : List Int} (h : ∀ k, k ∈ ms ↔ k ∈ ns) (hs : ms.Pairwise (· < ·)) : ms = usrt ns := by
  have n1 : ms.Nodup := hs.imp fun h => by omega
  have n2 : (usrt ns).Nodup := (usrt_srt ns).imp fun h => by omega
  have p : ms.Perm (usrt ns) := (List.perm_ext_iff_of_nodup n1 n2).mpr fun k => by rw [h, usrt_mem]
  exact p.eq_of_pairwise (fun a b _ _ h1 h2 => by omega) hs (usrt_srt ns)
@[simp] def oSSet (_ : Mu) (ws : List Vw) : Option Vw := match ws with
  | [.d (.tuple ds)] => (match toI ds with
    | some ns => if ns.length ≤ 60 then some (.d (.list ((usrt ns).map PyData.int))) else none
    | none => none)
  | _ => none
theorem ej_sset {e : Expr} {f : EF} {p p2 pos pos2 : Pos} (hc : X.calm = true) (hm : X.mg "sorted" = none) (hm2 : X.mg "set" = none) (he : PE X e (tE X.K f)) (hg : Gl X "sorted" := by rfl) (hg2 : Gl X "set" := by rfl)
    (hs : starEach [.Call (.Name "set" p2) [e] [] pos2] X.env = (false, eval (.Call (.Name "set" p2) [e] [] pos2) X.env) :: starEach [] X.env := by rfl) (hs2 : starEach [e] X.env = (false, eval e X.env) :: starEach [] X.env := by rfl)
    (hp : (backTo pos (starEach [] X.env)).any (·.1) = false := by rfl) (hp2 : (backTo pos2 (starEach [] X.env)).any (·.1) = false := by rfl) :
    PE X (.Call (.Name "sorted" p) [.Call (.Name "set" p2) [e] [] pos2] [] pos) (tE X.K (eBi oSSet (aCons f aNil))) :=
  PE.to (pe_callB (cr_sortedSet hc) hg hm (by decide +kernel) (pa_cons (pe_callTy (cr_setTI hc) hg2 hm2 (by decide +kernel) (pa_cons he pa_nil hs2) (by decide) (by decide) hs2 hp2) pa_nil hs) (by decide) (by decide) hs hp) fun σ H Q ⟨φ, ρ, μ, w, μ', rs, e, k⟩ => by
    unfold eBi aCons aNil at e
    cases e1 : f ρ μ with
    | none => simp only [e1] at e; cases e
    | some z =>
      obtain ⟨x, μ1⟩ := z
      simp only [e1, Option.map_some] at e
      obtain ⟨y, e2, e3⟩ := Option.map_eq_some_iff.mp e
      cases e3
      unfold oSSet at e2
      split at e2
      · rename_i ds hw
        cases hw
        split at e2
        · rename_i ns e4
          split at e2
          · rename_i hl
            cases e2
            refine ⟨φ, ρ, μ, _, _, rs, e1, fun φ1 v1 H1 g1 c1 r1 => ?_⟩
            obtain ⟨a, xs, rfl, h1, h2⟩ := r1
            rw [toI_da e4 h2] at h1
            refine ⟨a, ns, rfl, h1, hl, fun b c hb hcn => ⟨b, _, c, rfl, upd_same, by omega, fun ms q hs hm _ hq => ?_⟩⟩
            rw [usrt_eq (fun k => (hm k).trans (by rw [decide_eq_true_eq])) hs]
            exact new_lst (c1.laid hb) (DaAll.ints (usrt ns)) (fun φ4 v4 H4 g4 c4 r4 => k φ4 v4 H4 ((g1.trans (Grow.laid hb)).trans g4) c4 r4) q hq
          · cases e2
        · cases e2
      · cases e2
/-! xs.extend(t) -/
def rExtT (K : PySem.W.Frag) : V → List V → Hp → VK → Prop := fun x vs H Q => ∃ l b xs zs, x = .ref l ∧ vs = [.ref b] ∧ H l = some (.lst xs) ∧ SqT K H b zs ∧ xs.length + zs.length ≤ 1000000 ∧ Q .non (upd H l (.lst (xs ++ zs)))
theorem mt_extT : MtM X "list.extend" (rExtT X.K) := by
  intro pins s σ H x vs v us Q I rx rv h
  obtain ⟨l, b, xs, zs, rfl, rfl, hH, hB, hz, q⟩ := h
  cases rx
  obtain ⟨u, rfl, ru⟩ := rv.one
  cases ru
  obtain ⟨z, its, n, r, hl, e⟩ := I.lstM hH
  obtain ⟨its2, r2, pt, z2⟩ := I.tuple hB
  have l2 := r2.length
  refine ext_tup e pt (by rw [List.size_toArray, List.size_toArray]; omega) ?_
  refine ⟨.non, _, I.lset (t' := s.toks) (its' := its ++ its2) hH e (by simp) (r.append r2) ?_, rfl, q⟩
  rw [List.length_append]
  have hs : 1000000 ≤ sizeLine := by rw [sizeLine_eq]; decide
  omega
@[simp] def sExtT (fo fe : EF) (ρ : Rho) (μ : Mu) : Option SR := match fo ρ μ with
  | some (.loc n, μ1) => (match fe ρ μ1 with
    | some (.d (.tuple es), μ2) => (match μ2[n]? with
      | some ds => if ds.length + es.length ≤ 1000000 then some (.nx ρ (μ2.set n (ds ++ es))) else none
      | none => none)
    | _ => none)
  | _ => none
theorem sj_extT {pos : Pos} {o e : Expr} {fo fe : EF} {apos cpos : Pos} (ho : PE X o (tE X.K fo)) (he : PE X e (tE X.K fe)) (hbase : attributeBase o "extend" X.env (eval o X.env) = eval o X.env := by rfl)
    (hfew : ((backTo cpos (starEach [e] X.env)).all (fun x => !x.1) && (backToKw cpos (keywordEach [] X.env)).all (fun x => x.1.isSome) && decide (([e] : List Expr).length + ([] : List Keyword).length + (if ([] : List Keyword).isEmpty then 0 else 1) < 30)) = true := by rfl)
    (hline : (apos.endLine == cpos.line) = true := by rfl) (hs : starEach [e] X.env = (false, eval e X.env) :: starEach [] X.env := by rfl) (hplain : (backTo cpos (starEach [] X.env)).any (·.1) = false := by rfl)
    (hsw : swapsWith (.Call (.Attribute o "extend" apos) [e] [] cpos) none pos.line X.env = pure false := by rfl) : PS X (.Expr (.Call (.Attribute o "extend" apos) [e] [] cpos) pos) (tS X.K (sExtT fo fe)) :=
  PS.to (ps_expr (pe_bm PySem.F.plainAttrs_list PySem.F.slot_list_extend PySem.F.type_list_extend mt_extT ho (aj_cons he aj_nil hs) hbase hfew hline hs hplain) hsw) fun D σ H ⟨φ, ρ, μ, rs, k⟩ => by
  unfold sExtT at k
  split at k
  · rename_i n μ1 e1
    refine ⟨φ, ρ, μ, _, μ1, rs, e1, fun φ1 v1 H1 g1 c1 r1 => ?_⟩
    have rs1 := rs.step g1.w c1
    obtain ⟨a, h1, h2⟩ := id r1
    obtain ⟨xs, hx⟩ := c1.mem (List.mem_of_getElem? h1)
    subst h2
    refine ⟨.inl ⟨rfl, xs, SqL.of hx⟩, ?_⟩
    split at k
    · rename_i es μ2 e2
      refine ⟨φ1, ρ, μ1, [.d (.tuple es)], μ2, rs1, by unfold aCons aNil; rw [e2]; rfl, fun φ2 vs H2 g2 c2 r2 => ?_⟩
      obtain ⟨v, rfl, b0, zs, rfl, h12, h13⟩ := rvs1 r2
      split at k
      · rename_i ds e4
        split at k
        · rename_i hl
          obtain ⟨b, h6, h7⟩ := RV.step g2.w _ _ r1
          cases h7
          obtain ⟨ys, h8, h9⟩ := c2.at_ n a ds h6 e4
          refine ⟨a, b0, ys, zs, rfl, rfl, h8, h12, by rw [← h9.len, ← h13.len]; exact hl, ?_⟩
          obtain ⟨g4, c4⟩ := cell_write c2 h6 (DaAll.append h9 h13)
          exact k φ2 σ _ ((g1.trans g2).trans g4) ((rs1.step g2.w c2).step g4.w c4)
        · exact k.elim
      · exact k.elim
    · exact k.elim
  · exact k.elim
end
end VL
end
section
set_option Elab.async false
set_option linter.all false
set_option maxRecDepth 100000
set_option maxHeartbeats 2000000
/-! ### sorted(xs), xs a list of pairs of whole numbers -/
namespace VL
open PySem PySem.Spec PyProof.Rows L2
variable [LawTabs]
def lexLe (p q : Int × Int) : Prop := p.1 < q.1 ∨ (p.1 = q.1 ∧ p.2 ≤ q.2)
def lexLeB (p q : Int × Int) : Bool := decide (p.1 < q.1) || (decide (p.1 = q.1) && decide (p.2 ≤ q.2))
theorem lexLeB_iff {p q : Int × Int} : lexLeB p q = true ↔ lexLe p q := by
  unfold lexLeB lexLe
  simp
theorem lexLe_total (p q : Int × Int) : lexLe p q ∨ lexLe q p := by unfold lexLe; omega
theorem lexLe_trans {p q r : Int × Int} (h1 : lexLe p q) (h2 : lexLe q r) : lexLe p r := by unfold lexLe at *; omega
theorem lexLe_anti {p q : Int × Int} (h1 : lexLe p q) (h2 : lexLe q p) : p = q := by
  unfold lexLe at *
  exact Prod.ext (by omega) (by omega)
def insP (x : Int × Int) : List (Int × Int) → List (Int × Int)
  | [] => [x]
  | y :: l => if lexLeB x y = true then x :: y :: l else y :: insP x l
def psrt (ns : List (Int × Int)) : List (Int × Int) := ns.foldr insP []
theorem insP_perm (x : Int × Int) : ∀ l, (insP x l).Perm (x :: l)
  | [] => .refl _
  | y :: l => by
    unfold insP
    split
    · exact .refl _
    · exact ((insP_perm x l).cons y).trans (.swap x y l)
theorem insP_srt (x : Int × Int) : ∀ l, l.Pairwise lexLe → (insP x l).Pairwise lexLe
  | [], _ => by simp [insP]
  | y :: l, h => by
    obtain ⟨h1, h2⟩ := List.pairwise_cons.mp h
    unfold insP
    split
    · rename_i hxy
      exact List.pairwise_cons.mpr ⟨fun z hz => (List.mem_cons.mp hz).elim (fun e => by rw [e]; exact lexLeB_iff.mp hxy) fun e => lexLe_trans (lexLeB_iff.mp hxy) (h1 z e), h⟩
    · rename_i hxy
      refine List.pairwise_cons.mpr ⟨fun z hz => ?_, insP_srt x l h2⟩
      rcases List.mem_cons.mp ((insP_perm x l).mem_iff.mp hz) with e | e
      · rw [e]; exact (lexLe_total x y).resolve_left fun q => hxy (lexLeB_iff.mpr q)
      · exact h1 z e
theorem psrt_perm : ∀ ns, (psrt ns).Perm ns
  | [] => .refl _
  | x :: ns => (insP_perm x (psrt ns)).trans ((psrt_perm ns).cons x)
theorem psrt_srt : ∀ ns, (psrt ns).Pairwise lexLe
  | [] => List.Pairwise.nil
  | x :: ns => insP_srt x _ (psrt_srt ns)
theorem psrt_eq {ns ms : List (Int × Int)} (h : ms.Perm ns) (hs : ms.Pairwise lexLe) : ms = psrt ns := (h.trans (psrt_perm ns).symm).eq_of_pairwise (fun a b _ _ h1 h2 => lexLe_anti h1 h2) hs (psrt_srt ns)
@[simp] def toP : List PyData → Option (List (Int × Int))
  | [] => some []
  | .tuple [.int i, .int j] :: ds => (toP ds).map ((i, j) :: ·)
  | _ :: _ => none
abbrev pD (p : Int × Int) : PyData := .tuple [.int p.1, .int p.2]
theorem toP_eq : ∀ {ds : List PyData} {ps : List (Int × Int)}, toP ds = some ps → ds = ps.map pD
  | [], _, e => by cases e; rfl
  | d :: ds, ps, e => by
    unfold toP at e
    split at e
    · rename_i h0; cases h0
    · rename_i i j ds' hd
      cases hd
      obtain ⟨qs, e1, e2⟩ := Option.map_eq_some_iff.mp e
      subst e2
      rw [toP_eq e1]; rfl
    · cases e
theorem toP_map : ∀ ps : List (Int × Int), toP (ps.map pD) = some ps
  | [] => rfl
  | p :: ps => by simp [toP_map ps]
/-- the pair at each place of a list of V -/
def PrsAt (K : PySem.W.Frag) (H : Hp) (xs : List V) (ps : List (Int × Int)) : Prop := xs.length = ps.length ∧ ∀ z ∈ xs.zip ps, ∃ t, z.1 = .ref t ∧ SqT K H t [.int z.2.1, .int z.2.2]
def rSortedPT (K : PySem.W.Frag) : List V → Hp → VK → Prop := fun vs H Q => ∃ (a : Addr) (xs : List V) (ps : List (Int × Int)), vs = [V.ref a] ∧ SqL K H a xs ∧ PrsAt K H xs ps ∧ ∀ (ys : List V) (qs : List (Int × Int)) (p : Addr), (∀ z ∈ ys.zip qs, z ∈ xs.zip ps) → ys.length = qs.length → qs.Perm ps → qs.Pairwise lexLe → H p = none → Q (.ref p) (upd H p (.lst ys))
open Classical in
noncomputable def prOf (h : Heap) (u : Value) : Int × Int := if q : ∃ p : Int × Int, Srt.IsPair h u p.1 p.2 then choose q else (0, 0)
theorem isPair_uniq {h : Heap} {u : Value} {p q : Int × Int} (x : Srt.IsPair h u p.1 p.2) (y : Srt.IsPair h u q.1 q.2) : p = q := by
  obtain ⟨a, o, t, t2, n, e, ho, hc, hd⟩ := x
  obtain ⟨b, o2, t3, t4, n2, e2, ho2, hc2, hd2⟩ := y
  rw [e] at e2; cases e2
  rw [ho] at ho2; cases ho2
  rw [hd] at hd2
  injection hd2 with h1 _
  have h2 := congrArg Array.toList h1
  simp at h2
  exact Prod.ext h2.1.1 h2.2.1
theorem prOf_eq {h : Heap} {u : Value} {p : Int × Int} (x : Srt.IsPair h u p.1 p.2) : prOf h u = p := by
  have q : ∃ p : Int × Int, Srt.IsPair h u p.1 p.2 := ⟨p, x⟩
  unfold prOf
  rw [dif_pos q]
  exact isPair_uniq (Classical.choose_spec q) x
theorem zip_map_mem {α β : Type} (f : α → β) : ∀ (l : List α) (z : α × β), z ∈ l.zip (l.map f) ↔ z.1 ∈ l ∧ z.2 = f z.1
  | [], z => by simp
  | x :: l, z => by
    rw [List.map_cons, List.zip_cons_cons, List.mem_cons, List.mem_cons, zip_map_mem f l z]
    constructor
    · rintro (e | ⟨h1, h2⟩)
      · subst e; exact ⟨.inl rfl, rfl⟩
      · exact ⟨.inr h1, h2⟩
    · rintro ⟨e | h1, h2⟩
      · exact .inl (Prod.ext e (by rw [h2, e]))
      · exact .inr ⟨h1, h2⟩
section
variable {X : Cx}
theorem cr_sortedPT : CallR X (.builtin "sorted") (rSortedPT X.K) := by
  intro pins s σ H vs us Q I r h
  obtain ⟨a, xs, ps, rfl, hs, ⟨hlen, hp⟩, q⟩ := h
  obtain ⟨its, rv, hl, hz⟩ := I.list hs
  rw [Vals.ref1 r]
  have href : ∀ x ∈ xs, ∃ t, x = V.ref t := fun x hx => by
    obtain ⟨i, hi, e⟩ := List.mem_iff_getElem.mp hx
    obtain ⟨t, e2, _⟩ := hp (xs[i], ps[i]'(by omega)) (List.mem_iff_getElem.mpr ⟨i, by simp; omega, by simp⟩)
    exact ⟨t, e.symm.trans e2⟩
  obtain ⟨e1, e2⟩ := refs_back rv href
  have hpr : ∀ (i : Nat) (u : Value), its[i]? = some u → ∃ p, ps[i]? = some p ∧ Srt.IsPair s.heap u p.1 p.2 := fun i u hi => by
    have hil : i < its.length := (List.getElem?_eq_some_iff.mp hi).1
    have hxl : i < xs.length := by rw [rv.length]; exact hil
    have hpl : i < ps.length := by omega
    obtain ⟨t, et, hq⟩ := hp (xs[i], ps[i]) (List.mem_iff_getElem.mpr ⟨i, by simp; omega, by simp⟩)
    refine ⟨ps[i], List.getElem?_eq_getElem hpl, ?_⟩
    obtain ⟨its2, r2, ⟨o, ho, hc, n, hd⟩, _⟩ := I.tuple hq
    obtain ⟨u1, u2, rfl, ri, rj⟩ := vals2 r2
    obtain ⟨t1, rfl⟩ := ri
    obtain ⟨t2, rfl⟩ := rj
    have hu : u = .ref t := by
      have q1 : xs[i] = backV u := by
        have : xs[i]? = (its.map backV)[i]? := by rw [← e1]
        rw [List.getElem?_eq_getElem hxl, List.getElem?_map, hi] at this
        exact Option.some.inj this
      obtain ⟨b, rfl⟩ := e2 u (List.mem_of_getElem? hi)
      rw [show xs[i] = V.ref t from et] at q1
      cases q1; rfl
    exact ⟨t, o, t1, t2, n, hu, ho, hc, hd⟩
  have hps : ps = its.map (prOf s.heap) := by
    apply List.ext_getElem?
    intro i
    rw [List.getElem?_map]
    cases hi : its[i]? with
    | none =>
      rw [List.getElem?_eq_none_iff] at hi
      rw [List.getElem?_eq_none (by rw [← hlen, rv.length]; exact hi)]; rfl
    | some u =>
      obtain ⟨p, h1, h2⟩ := hpr i u hi
      rw [h1, Option.map_some, prOf_eq h2]
  refine SrtO.sorted_pairsO (k := prOf s.heap) hl.isList (by rw [← rv.length]; exact hz) (fun v hv => ?_) fun h' d out h1 h2 kp hd hn => ?_
  · obtain ⟨i, hi⟩ := List.getElem?_of_mem hv
    obtain ⟨p, _, h2⟩ := hpr i v hi
    rw [prOf_eq h2]; exact h2
  · have h3 : ∀ u ∈ out, ∃ a, u = Value.ref a := fun u hu => e2 u (h2.perm.mem_iff.mp hu)
    obtain ⟨n, hn⟩ := hn
    have hl2 : out.length = its.length := h2.perm.length_eq
    refine ⟨.ref d, upd H d (.lst (out.map backV)), I.laid (t' := s.toks) kp hd ⟨by rw [List.length_map, hl2, ← rv.length]; exact hz, out, n, vals_back h3, hn⟩, rfl, q _ (out.map (prOf s.heap)) d (fun z hz2 => ?_) (by simp) ?_ ?_ (I.hok.fresh hd)⟩
    · rw [List.zip_map', List.mem_map] at hz2
      obtain ⟨u, hu, rfl⟩ := hz2
      rw [e1, hps, List.zip_map', List.mem_map]
      exact ⟨u, h2.perm.mem_iff.mp hu, rfl⟩
    · rw [hps]; exact h2.perm.map _
    · refine List.pairwise_map.mpr (h1.imp fun {x y} e => ?_)
      have := SrtO.lexB_no.mp e
      unfold lexLe
      omega
@[simp] def oSortedP (μ : Mu) (ws : List Vw) : Option Vw := match ws with
  | [w] => ((toL μ w).bind toP).map fun ps => .d (.list ((psrt ps).map pD))
  | _ => none
theorem oSortedP_ok {K : PySem.W.Frag} : OL K (rSortedPT K) oSortedP := by
  intro φ H μ ws w vs Q c r e k
  unfold oSortedP at e
  split at e
  · rename_i z
    obtain ⟨v, rfl, r1⟩ := rvs1 r
    obtain ⟨ps, e1, e4⟩ := Option.map_eq_some_iff.mp e
    cases e4
    obtain ⟨ds, e2, e3⟩ := Option.bind_eq_some_iff.mp e1
    obtain ⟨a, xs, rfl, h1, h2⟩ := toL_ok c r1 e2
    have e5 := toP_eq e3
    subst e5
    have key : ∀ {ps : List (Int × Int)} {xs : List V}, DaAll K φ.av H (ps.map pD) xs → ∀ z ∈ xs.zip ps, Da K φ.av H (pD z.2) z.1 := by
      intro ps
      induction ps with
      | nil => intro xs h z hz; simp at hz
      | cons p ps ih =>
        intro xs h z hz
        obtain ⟨u, us, rfl, hu, hus⟩ := h
        rw [List.zip_cons_cons, List.mem_cons] at hz
        rcases hz with rfl | hz
        · exact hu
        · exact ih hus z hz
    have hlen : xs.length = ps.length := by rw [← h2.len, List.length_map]
    refine ⟨a, xs, ps, rfl, h1, ⟨hlen, fun z hz => ?_⟩, fun ys qs p hz hl hp hs hn => ?_⟩
    · obtain ⟨b, us, e6, h6, h7⟩ := key h2 z hz
      obtain ⟨v1, vs1, rfl, hv1, v2, vs2, rfl, hv2, hv3⟩ := h7
      have : vs2 = [] := hv3
      subst this
      cases hv1; cases hv2
      exact ⟨b, e6, h6⟩
    · rw [← psrt_eq hp hs] at k
      have all : ∀ {qs : List (Int × Int)} {ys : List V}, ys.length = qs.length → (∀ z ∈ ys.zip qs, Da K φ.av H (pD z.2) z.1) → DaAll K φ.av H (qs.map pD) ys := by
        intro qs
        induction qs with
        | nil => intro ys hl _; exact List.eq_nil_of_length_eq_zero hl
        | cons q qs ih =>
          intro ys hl hd
          cases ys with
          | nil => cases hl
          | cons y ys => exact ⟨y, ys, rfl, hd (y, q) (by simp), ih (by simpa using hl) fun z hz => hd z (by rw [List.zip_cons_cons]; exact List.mem_cons_of_mem _ hz)⟩
      exact new_lst c (all hl fun z hzz => key h2 z (hz z hzz)) k p hn
  · cases e
end
end VL
end
section
set_option Elab.async false
set_option linter.all false
set_option maxRecDepth 100000
set_option maxHeartbeats 2000000
/-! ### defs as values, tries around them -/
namespace VL
open PySem PySem.Spec PyProof.Rows L2
variable [LawTabs]
/-- the def of the name x as a value -/
abbrev fnD (x : Str) : PyData := .dict [(.str "def", .str x)]
section
variable {X : Cx} {k i : Nat} {x n : Str} {e : Expr} {es : List Expr} {fa : AF} {p pos : Pos} {W : WX} {L : Str → Option (Nat × XM)}
theorem ej_fn (hm : X.mg x = some (.ref (He.ga X.K x))) (hg : Gl X x := by rfl) (hd : (x == ("__debug__" : Str)) = false := by decide) : PE X (.Name x pos) (tE X.K (eC (fnD x))) :=
  ej_c (pe_glob (v := .ref (He.ga X.K x)) hg hm rfl hd) fun _ _ => .inr (.inl ⟨x, rfl, rfl⟩)
/-- a call of the def that a slot holds -/
def tXV (K : PySem.W.Frag) (W : WX) (L : Str → Option (Nat × XM)) (i : Nat) (fa : AF) : TE := fun σ H Q => ∃ φ ρ μ, RS K φ σ H ρ μ ∧ ∃ x n m ws μ1, ρ[i]? = some (some (.d (fnD x))) ∧ L x = some (n, m) ∧ fa ρ μ = some (ws, μ1) ∧ ws.length = n ∧ XRP K φ H Q (fun cls d H' => W cls d σ H') (m μ1 ws)
theorem xe_callV (tk : Takes X W) (C : ∀ x n m, L x = some (n, m) → CalX X.prog X.w X.K X.mg X.base k x n m) (hr : Room k X.A) (ha : PA X (e :: es) (tA X.K fa)) (hN : X.N[i]? = some n := by rfl) (hv : Vis X.env.scope n := by first | exact Or.inl rfl | exact Or.inr (Or.inl rfl) | exact Or.inr (Or.inr rfl))
    (hdb : (n == ("__debug__" : Str)) = false := by decide) (hcd : (n == ("__classdict__" : Str)) = false := by decide)
    (he : starEach (e :: es) X.env = (false, eval e X.env) :: starEach es X.env := by rfl) (hpl : (backTo pos (starEach es X.env)).any (·.1) = false := by rfl) : PE X (.Call (.Name n p) (e :: es) [] pos) (tXV X.K W L i fa) := by
  refine ⟨fun pins s σ H Q I h => ?_⟩
  obtain ⟨φ, ρ, μ, rs, x, n0, m, ws, μ1, hi, hL, e1, hl, q⟩ := h
  obtain ⟨fd, ps, F, hm, hk, hb⟩ := (C x n0 m hL).ex
  obtain ⟨v, hσ, hv2⟩ := rs.at_ i _ hi
  obtain rfl : v = .ref (He.ga X.K x) := Da.defRef hv2
  refine wpAny_Call_Name_kw (thn ((pe_var (pos := p) hN hv hdb hcd).run pins s σ H (fun v H1 => v = .ref (He.ga X.K x) ∧ H1 = H) I ⟨_, hσ, rfl, rfl⟩) fun u s1 ⟨v, H1, I1, r1, q1⟩ => ?_)
  obtain ⟨ev, eH⟩ := q1
  subst ev eH
  cases r1
  refine PySem.W.callWith_K (h₀ := X.base) I.ok.mod.kin hk (thn (ha.run pos pins s1 σ H1 (fun vs H2 => spX X.K n0 m vs H2 Q (fun cls d H' => W cls d σ H')) I1 ⟨φ, ρ, μ, ws, μ1, rs, e1, fun φ1 vs H2 g1 c1 r1 => ⟨φ1, μ1, ws, c1, r1, hl, q.grow g1⟩⟩) fun us s2 ⟨vs, H2, I2, r, q2⟩ => ⟨I2.kIn, ?_⟩) he hpl
  exact run_fnS (E := fun σ cls d H' => W cls d σ H') F hr hb (passAt tk σ) I2 r q2
/-! the suites of "except R as n": what is read off the error -/
/-- the error that a suite holds, its value -/
def ErrAt (K : PySem.W.Frag) (φ : Ph) (H : Hp) (σ : L2.St) (i : Nat) (a : Addr) (cls : Value) (d : Option Addr) (C : Addr) (f : Str) (p : PyData) : Prop := σ[i]? = some (some (.ref a)) ∧ cls = .ref C ∧ ∃ dd v, d = some dd ∧ H dd = some (.xd [(f, v)]) ∧ Da K φ.av H p v
/-- n.f as a rule that tells data -/
def tErr (K : PySem.W.Frag) (i : Nat) (a : Addr) (cls : Value) (d : Option Addr) (C : Addr) (f : Str) (p : PyData) : TE := fun σ H Q => ∃ φ ρ μ, RS K φ σ H ρ μ ∧ ErrAt K φ H σ i a cls d C f p ∧ Post K φ H μ (.d p) Q
theorem pe_err {a : Addr} {oe : Obj} {cls : Value} {d : Option Addr} {pn : List (Addr × Obj)} {f : Str} {bmB : List Value} {newId : String} {C fI : Addr} {q : PyData} (T : LowC X.K X.mg x f bmB newId C fI) (hz : Zc cls d oe) (hf : ∃ vs, oe.data = .fields vs)
    (hN : X.N[i]? = some n := by rfl) (hv : Vis X.env.scope n := by first | exact Or.inl rfl | exact Or.inr (Or.inl rfl) | exact Or.inr (Or.inr rfl)) (hdb : (n == ("__debug__" : Str)) = false := by decide) (hcd : (n == ("__classdict__" : Str)) = false := by decide)
    (hb : attributeBase (.Name n p) f X.env (eval (.Name n p) X.env) = eval (.Name n p) X.env := by rfl) : PE (X.suite a ((a, oe) :: pn)) (.Attribute (.Name n p) f pos) (tErr X.K i a cls d C f q) :=
  PE.to (pe_byLowG T hz hf (pe_var (X := X.suite a ((a, oe) :: pn)) hN hv hdb hcd) hb) fun σ H Q ⟨φ, ρ, μ, rs, ⟨h1, h2, dd, v, h3, h4, h5⟩, k⟩ => ⟨_, h1, rfl, h2, dd, v, h3, h4, k φ v H (.refl _ _) rs.c h5⟩
end
/-! list(range(n)), tuple(range(n)) -/
@[simp] def eLstRg (f : EF) (ρ : Rho) (μ : Mu) : Option (Vw × Mu) := match f ρ μ with
  | some (.d (.int n), μ1) => if 0 ≤ n ∧ n ≤ 1000 then some (.d (.list (rngD 0 n.toNat)), μ1) else none
  | _ => none
theorem rgV_da {K : PySem.W.Frag} {A : List Addr} {H : Hp} (n : Int) : DaAll K A H (rngD 0 n.toNat) (rgV 0 n) := by
  have e1 : rngD 0 n.toNat = ((List.range n.toNat).map fun (i : Nat) => (0 : Int) + (i : Int)).map PyData.int := by unfold rngD; rw [List.map_map]; rfl
  have e2 : rgV 0 n = ((List.range n.toNat).map fun (i : Nat) => (0 : Int) + (i : Int)).map V.int := by unfold rgV; rw [List.map_map, Int.sub_zero]; rfl
  rw [e1, e2]
  exact DaAll.ints _
theorem ej_lstRg {X : Cx} {e : Expr} {f : EF} {p p2 pos pos2 : Pos} (hc : X.calm = true) (hm : X.mg "list" = none) (hm2 : X.mg "range" = none) (he : PE X e (tE X.K f)) (hg : Gl X "list" := by rfl) (hg2 : Gl X "range" := by rfl)
    (na2 : starEach [e] X.env = (false, eval e X.env) :: starEach [] X.env := by rfl) (na : starEach [.Call (.Name "range" p2) [e] [] pos2] X.env = (false, eval (.Call (.Name "range" p2) [e] [] pos2) X.env) :: starEach [] X.env := by rfl) :
    PE X (.Call (.Name "list" p) [.Call (.Name "range" p2) [e] [] pos2] [] pos) (tE X.K (eLstRg f)) :=
  PE.to (pe_listRg hc hg hm (prg_1 hg2 hm2 he na2) na) fun σ H Q ⟨φ, ρ, μ, w, μ', rs, e, k⟩ => by
    unfold eLstRg at e
    split at e
    · rename_i n μ1 e1
      split at e
      · rename_i hn
        cases e
        refine ⟨φ, ρ, μ, _, _, rs, e1, fun φ1 v H1 g1 c1 r1 => ?_⟩
        cases r1
        exact ⟨n, rfl, .of_le (by omega) (by omega) (by omega) (by omega), fun q hq => new_lst c1 (rgV_da n) (fun φ4 v4 H4 g4 c4 r4 => k φ4 v4 H4 (g1.trans g4) c4 r4) q hq⟩
      · cases e
    · cases e
end VL
end
section
set_option Elab.async false
set_option linter.all false
set_option maxRecDepth 100000
set_option maxHeartbeats 2000000
namespace VL
open PySem PySem.Spec PyProof.Rows L2
variable [LawTabs]
theorem RS.off {K : PySem.W.Frag} {φ : Ph} {σ : L2.St} {H : Hp} {ρ : Rho} {μ : Mu} (r : RS K φ σ H ρ μ) (i : Nat) (x : Option V) : RS K φ (σ.set i x) H (ρ.set i none) μ := by
  refine ⟨r.c, by simp [r.len], fun j u hj => ?_⟩
  by_cases e : j = i
  · subst e
    by_cases hl : j < ρ.length
    · rw [List.getElem?_set_self hl] at hj; cases hj
    · rw [List.getElem?_eq_none (by simpa using hl)] at hj; cases hj
  · rw [List.getElem?_set_ne (Ne.symm e)] at hj
    obtain ⟨v, h1, h2⟩ := r.at_ j u hj
    exact ⟨v, by rw [List.getElem?_set_ne (Ne.symm e)]; exact h1, h2⟩
/-- what is raised alone is told -/
@[simp] def xEx (n : Nat) (m : XM) (fa : AF) (ρ : Rho) (μ : Mu) : Option SX := match fa ρ μ with
  | some (ws, μ1) => if ws.length = n then (match m μ1 ws with
    | some (.ex e μ2) => some (.ex e μ2)
    | _ => none) else none
  | none => none
theorem xEx_some {K : PySem.W.Frag} {φ : Ph} {H : Hp} {D : Ends} {W : XK} {n : Nat} {m : XM} {fa : AF} {ρ : Rho} {μ : Mu} (k : SXP K φ H D W (xEx n m fa ρ μ)) : ∃ ws μ1 e μ2, fa ρ μ = some (ws, μ1) ∧ ws.length = n ∧ m μ1 ws = some (.ex e μ2) ∧ XP K φ H W e μ2 := by
  unfold xEx at k
  split at k
  · rename_i ws μ1 e1
    split at k
    · rename_i hl
      split at k
      · rename_i e μ2 e2
        exact ⟨ws, μ1, e, μ2, e1, hl, e2, k⟩
      · exact k.elim
    · exact k.elim
  · exact k.elim
section
variable {X : Cx} {W : XK} {k j n i : Nat} {x y z : Str} {m : XM} {mz : FM} {e : Expr} {es : List Expr} {fa : AF} {p py pz pos pos2 spos : Pos}
theorem xj_asgX (hN : X.N.Nodup) (he : PE X e (tXE X.K W n m fa)) (hi : X.N[i]? = some y := by rfl) (hx : Loc X.env.scope y := by first | exact Or.inl rfl | exact Or.inr rfl) (hs : swapsWith e (some (.Name y py)) spos.line X.env = pure false := by rfl)
    (hf : X.fn y = true ∨ X.env.scope.names.lookup y = some .local := by first | exact .inl rfl | exact .inr rfl) : PS X (.Assign [.Name y py] e spos) (tX X.K W (xEx n m fa)) := PS.to (ps_set hN hi hx he hs hf) fun D σ H ⟨φ, ρ, μ, rs, k⟩ => by
  obtain ⟨ws, μ1, e, μ2, e1, hl, e2, k⟩ := xEx_some k
  exact ⟨φ, ρ, μ, rs, ws, μ1, e1, hl, by rw [e2]; exact k⟩
/-- g(f(..)), f raising -/
theorem xe_in (c : CalM X.prog X.w X.K X.mg X.base j z 1 mz) (hr : Room j X.A) (he : PE X e (tXE X.K W n m fa)) (hg : Gl X z := by rfl) (hdb : (z == ("__debug__" : Str)) = false := by decide)
    (hs : starEach [e] X.env = (false, eval e X.env) :: starEach [] X.env := by rfl) (hpl : (backTo pos2 (starEach [] X.env)).any (·.1) = false := by rfl) : PE X (.Call (.Name z pz) [e] [] pos2) (fun σ H _ => ∃ φ ρ μ, RS X.K φ σ H ρ μ ∧ ∃ ws μ1 e μ2, fa ρ μ = some (ws, μ1) ∧ ws.length = n ∧ m μ1 ws = some (.ex e μ2) ∧ XP X.K φ H W e μ2) := by
  obtain ⟨f, fd, ps, F, hm, hk, hb⟩ := c.ex
  refine PE.to (pe_call F hr hg hm hk hb .nil pass0 (pa_cons he pa_nil hs) hdb hs hpl) fun σ H Q ⟨φ, ρ, μ, rs, ws, μ1, e, μ2, e1, hl, e2, k⟩ => ?_
  exact ⟨φ, ρ, μ, rs, ws, μ1, e1, hl, by rw [e2]; exact k⟩
theorem xj_asgX2 (hN : X.N.Nodup) (he : PE X e (fun σ H _ => ∃ φ ρ μ, RS X.K φ σ H ρ μ ∧ ∃ ws μ1 e μ2, fa ρ μ = some (ws, μ1) ∧ ws.length = n ∧ m μ1 ws = some (.ex e μ2) ∧ XP X.K φ H W e μ2)) (hi : X.N[i]? = some y := by rfl) (hx : Loc X.env.scope y := by first | exact Or.inl rfl | exact Or.inr rfl) (hs : swapsWith e (some (.Name y py)) spos.line X.env = pure false := by rfl)
    (hf : X.fn y = true ∨ X.env.scope.names.lookup y = some .local := by first | exact .inl rfl | exact .inr rfl) : PS X (.Assign [.Name y py] e spos) (tX X.K W (xEx n m fa)) := PS.to (ps_set hN hi hx he hs hf) fun D σ H ⟨φ, ρ, μ, rs, k⟩ => by
  obtain ⟨ws, μ1, e, μ2, e1, hl, e2, k⟩ := xEx_some k
  exact ⟨φ, ρ, μ, rs, ws, μ1, e, μ2, e1, hl, e2, k⟩
/-- a call within a try -/
def tXW (K : PySem.W.Frag) (W : WX) (n : Nat) (m : XM) (fa : AF) : TE := fun σ H Q => ∃ φ ρ μ, RS K φ σ H ρ μ ∧ ∃ ws μ1, fa ρ μ = some (ws, μ1) ∧ ws.length = n ∧ XRP K φ H Q (fun cls d H' => W cls d σ H') (m μ1 ws)
theorem xe_callW {W : WX} (tk : Takes X W) (c : CalX X.prog X.w X.K X.mg X.base k x n m) (hr : Room k X.A) (ha : PA X (e :: es) (tA X.K fa)) (hg : Gl X x := by rfl) (hdb : (x == ("__debug__" : Str)) = false := by decide)
    (he : starEach (e :: es) X.env = (false, eval e X.env) :: starEach es X.env := by rfl) (hpl : (backTo pos (starEach es X.env)).any (·.1) = false := by rfl) : PE X (.Call (.Name x p) (e :: es) [] pos) (tXW X.K W n m fa) := by
  obtain ⟨fd, ps, F, hm, hk, hb⟩ := c.ex
  refine PE.to (pe_callS (E := WE W) F hr hg hm hk hb (fun σ => passAt tk σ) ha hdb he hpl) fun σ H Q ⟨φ, ρ, μ, rs, ws, μ1, e1, hl, k⟩ => ?_
  exact ⟨φ, ρ, μ, ws, μ1, rs, e1, fun φ1 vs H1 g1 c1 r1 => ⟨φ1, μ1, ws, c1, r1, hl, k.grow g1⟩⟩
end
/-! ### try: f(..) except R as n: if n.f != (t,): return .. | return n.f == (t,) -/
/-- the error that is wished for -/
def isErr (R f t : Str) : Xc → Bool
  | .low c g (.tuple [.str u]) => decide (c = R) && (decide (g = f) && decide (u = t))
  | _ => false
theorem isErr_eq {R f t : Str} {e : Xc} (h : isErr R f t e = true) : e = .low R f (.tuple [.str t]) := by
  unfold isErr at h
  split at h
  · simp only [Bool.and_eq_true, decide_eq_true_eq] at h
    obtain ⟨rfl, rfl, rfl⟩ := h
    rfl
  · cases h
@[simp] def sTryV (L : Str → Option (Nat × XM)) (i ie : Nat) (R f t : Str) (fa : AF) (ρ : Rho) (μ : Mu) : Option SR := match ρ[i]? with
  | some (some (.d (.dict [(.str q, .str x)]))) => if q = "def" ∧ ie < ρ.length then (match L x with
    | some (n, m) => (match fa ρ μ with
      | some (ws, μ1) => if ws.length = n then (match m μ1 ws with
        | some (.ex e μ2) => if isErr R f t e = true then some (.nx (ρ.set ie none) μ2) else none
        | _ => none) else none
      | none => none)
    | none => none) else none
  | _ => none
@[simp] def sTryR (n : Nat) (m : XM) (ie : Nat) (R f t : Str) (fa : AF) (ρ : Rho) (μ : Mu) : Option SR := if ie < ρ.length then (match fa ρ μ with
  | some (ws, μ1) => if ws.length = n then (match m μ1 ws with
    | some (.ex e μ2) => if isErr R f t e = true then some (.rt (.d (.bool true)) μ2) else none
    | _ => none) else none
  | none => none) else none
section
variable {X : Cx} {k i ie n0 : Nat} {R f t nv ne : Str} {L : Str → Option (Nat × XM)} {fa : AF} {e : Expr} {es : List Expr} {bmB : List Value} {newId : String} {fI : Addr} {m : XM} {x : Str}
/-- the first suite -/
def tsIf (K : PySem.W.Frag) (ie : Nat) (C : Addr) (f t : Str) (a : Addr) (cls : Value) (d : Option Addr) : TS := fun D σ H => ∃ φ ρ μ, RS K φ σ H ρ μ ∧ ErrAt K φ H σ ie a cls d C f (.tuple [.str t]) ∧ ∀ φ' H', Grow φ φ' H H' → RS K φ' σ H' ρ μ → D.nx σ H'
def tsRt (K : PySem.W.Frag) (ie : Nat) (C : Addr) (f t : Str) (a : Addr) (cls : Value) (d : Option Addr) : TS := fun D σ H => ∃ φ ρ μ, RS K φ σ H ρ μ ∧ ErrAt K φ H σ ie a cls d C f (.tuple [.str t]) ∧ ∀ φ' H', Grow φ φ' H H' → RS K φ' σ H' ρ μ → D.rt (.bl true) H'
theorem eqv_one (t : Str) : PyData.eqv (.tuple [.str t]) (.tuple [.str t]) = true := by simp [PyData.eqv, PyData.eqvAll]
theorem tup_one {K : PySem.W.Frag} {ρ : Rho} {μ : Mu} (t : Str) : eTup (aCons (eC (.str t)) aNil) ρ μ = some (.d (.tuple [.str t]), μ) := by simp
theorem su_if {a : Addr} {oe : Obj} {cls : Value} {d : Option Addr} {pn : List (Addr × Obj)} {b : Bool} {j j2 kk : Nat} {p1 p2 p3 p4 p5 p6 p7 p8 : Pos} (hu : X.A.units + 200 < cLine) (T : LowC X.K X.mg R f bmB newId (He.ga X.K R) fI) (hz : Zc cls d oe) (hf : ∃ vs, oe.data = .fields vs)
    (hN : X.N[ie]? = some ne := by rfl) (hv : Vis X.env.scope ne := by first | exact Or.inl rfl | exact Or.inr (Or.inl rfl) | exact Or.inr (Or.inr rfl)) (hdb : (ne == ("__debug__" : Str)) = false := by decide) (hcd : (ne == ("__classdict__" : Str)) = false := by decide)
    (hb : attributeBase (.Name ne p1) f X.env (eval (.Name ne p1) X.env) = eval (.Name ne p1) X.env := by rfl) :
    PSs (X.suite a ((a, oe) :: pn)) [.If (.Compare (.Attribute (.Name ne p1) f p2) [.NotEq] [.Tuple [.Constant (.str t) j p3] kk p4] p5) [.Return (some (.Constant (.bool b) j2 p6)) p7] [] p8] (tsIf X.K ie (He.ga X.K R) f t a cls d) :=
  PSs.to (pss_one (ps_if (pt_cmpR (X := X.suite a ((a, oe) :: pn)) (op_neP (X := X.suite a ((a, oe) :: pn)) hu) (pe_err (q := .tuple [.str t]) T hz hf hN hv hdb hcd hb) (ej_tup (X := X.suite a ((a, oe) :: pn)) (aj_cons ej_str aj_nil)) rfl) (pss_one (ps_ret pe_bl)) pss_nil)) fun D σ H ⟨φ, ρ, μ, rs, er, k⟩ => by
    refine ⟨φ, ρ, μ, rs, er, fun φ1 v H1 g1 c1 r1 => ⟨φ1, ρ, μ, .d (.tuple [.str t]), μ, rs.step g1.w c1, tup_one (K := X.K) t, fun φ2 u H2 g2 c2 r2 => ?_⟩⟩
    refine ⟨.tuple [.str t], .tuple [.str t], Da.dp _ _ rfl (Da.step g2.w _ _ r1), Da.dp _ _ rfl r2, rfl, rfl, by simp [PyData.depth, PyData.depthAll], false, by simp [eqv_one], ?_⟩
    refine L2.iteF ?_
    exact k φ2 H2 (g1.trans g2) ((rs.step g1.w c1).step g2.w c2)
theorem su_rt {a : Addr} {oe : Obj} {cls : Value} {d : Option Addr} {pn : List (Addr × Obj)} {j kk : Nat} {p1 p2 p3 p4 p5 p8 : Pos} (hu : X.A.units + 200 < cLine) (T : LowC X.K X.mg R f bmB newId (He.ga X.K R) fI) (hz : Zc cls d oe) (hf : ∃ vs, oe.data = .fields vs)
    (hN : X.N[ie]? = some ne := by rfl) (hv : Vis X.env.scope ne := by first | exact Or.inl rfl | exact Or.inr (Or.inl rfl) | exact Or.inr (Or.inr rfl)) (hdb : (ne == ("__debug__" : Str)) = false := by decide) (hcd : (ne == ("__classdict__" : Str)) = false := by decide)
    (hb : attributeBase (.Name ne p1) f X.env (eval (.Name ne p1) X.env) = eval (.Name ne p1) X.env := by rfl) :
    PSs (X.suite a ((a, oe) :: pn)) [.Return (some (.Compare (.Attribute (.Name ne p1) f p2) [.Eq] [.Tuple [.Constant (.str t) j p3] kk p4] p5)) p8] (tsRt X.K ie (He.ga X.K R) f t a cls d) :=
  PSs.to (pss_one (ps_ret (pe_cmpR (X := X.suite a ((a, oe) :: pn)) (op_eqP (X := X.suite a ((a, oe) :: pn)) hu) (pe_err (q := .tuple [.str t]) T hz hf hN hv hdb hcd hb) (ej_tup (X := X.suite a ((a, oe) :: pn)) (aj_cons ej_str aj_nil)) rfl))) fun D σ H ⟨φ, ρ, μ, rs, er, k⟩ => by
    refine ⟨φ, ρ, μ, rs, er, fun φ1 v H1 g1 c1 r1 => ⟨φ1, ρ, μ, .d (.tuple [.str t]), μ, rs.step g1.w c1, tup_one (K := X.K) t, fun φ2 u H2 g2 c2 r2 => ?_⟩⟩
    refine ⟨.tuple [.str t], .tuple [.str t], Da.dp _ _ rfl (Da.step g2.w _ _ r1), Da.dp _ _ rfl r2, rfl, rfl, by simp [PyData.depth, PyData.depthAll], ?_⟩
    have e : (if (false : Bool) = true then !PyData.eqv (.tuple [.str t]) (.tuple [.str t]) else PyData.eqv (.tuple [.str t]) (.tuple [.str t])) = true := by simp [eqv_one]
    rw [e]
    exact k φ2 H2 (g1.trans g2) ((rs.step g1.w c1).step g2.w c2)
theorem err_at {K : PySem.W.Frag} {φ : Ph} {H : Hp} {σ : L2.St} {ρ : Rho} {μ : Mu} {C : Addr} {q : PyData} {d : Addr} {v : V} {a : Addr} (rs : RS K φ σ H ρ μ) (hi : ie < ρ.length) (hd : H d = some (.xd [(f, v)])) (hq : Da K φ.av H q v) : ErrAt K φ H (σ.set ie (some (.ref a))) ie a (.ref C) (some d) C f q :=
  ⟨by rw [List.getElem?_set_self (by rw [rs.len]; exact hi)], rfl, d, v, rfl, hd, hq⟩
theorem trj_if {b b2 : Bool} {j j2 j3 kk : Nat} {p0 p1 p2 p3 p4 p5 p6 p7 p8 p9 q1 q2 q3 q4 q5 : Pos} (hst : X.stack = X.env :: X.outer) (hfm : X.env.frame = some X.env.locals) (hNd : X.N.Nodup) (hln : X.env.kindOf ne = some .local) (C : ∀ x n m, L x = some (n, m) → CalX X.prog X.w X.K X.mg X.base k x n m) (hr : Room k X.A)
    (T : LowC X.K X.mg R f bmB newId (He.ga X.K R) fI) (ex : PySem.W.exmOne X.K (.ref (He.ga X.K R)) (.ref (He.ga X.K R)) = some true) (ha : ∀ pn xe, PA (X.tr pn xe) (e :: es) (tA X.K fa)) (hgR : Gl X R) (hdR : (R == ("__debug__" : Str)) = false)
    (hNv : X.N[i]? = some nv := by rfl) (hN : X.N[ie]? = some ne := by rfl) (hvv : Vis X.env.scope nv := by first | exact Or.inl rfl | exact Or.inr (Or.inl rfl) | exact Or.inr (Or.inr rfl)) (hv : Vis X.env.scope ne := by first | exact Or.inl rfl | exact Or.inr (Or.inl rfl) | exact Or.inr (Or.inr rfl)) (hdbv : (nv == ("__debug__" : Str)) = false := by decide) (hcdv : (nv == ("__classdict__" : Str)) = false := by decide) (hdb : (ne == ("__debug__" : Str)) = false := by decide) (hcd : (ne == ("__classdict__" : Str)) = false := by decide)
    (hb : attributeBase (.Name ne p1) f X.env (eval (.Name ne p1) X.env) = eval (.Name ne p1) X.env := by rfl) (he : starEach (e :: es) X.env = (false, eval e X.env) :: starEach es X.env := by rfl) (hpl : (backTo q2 (starEach es X.env)).any (·.1) = false := by rfl) (hsw : swapsWith (.Call (.Name nv q1) (e :: es) [] q2) none q3.line X.env = pure false := by rfl) :
    PS X (.Try [.Expr (.Call (.Name nv q1) (e :: es) [] q2) q3, .Return (some (.Constant (.bool b2) j3 q4)) q5] [.ExceptHandler (some (.Name R p0)) (some ne) [.If (.Compare (.Attribute (.Name ne p1) f p2) [.NotEq] [.Tuple [.Constant (.str t) j p3] kk p4] p5) [.Return (some (.Constant (.bool b) j2 p6)) p7] [] p8] p9] [] [] pos) (tS X.K (sTryV L i ie R f t fa)) := by
  refine PS.to (ps_try_mix (l := [(.ref (He.ga X.K R), some ie, tsIf X.K ie (He.ga X.K R) f t)]) (Wo := fun _ _ _ _ => False) (tb := fun W => tSeq (tDrop (tXV X.K W L i fa)) (tRet (tC (.bl b2)))) hst hfm hNd (fun u s' ⟨_, _, _, _, _, _, _, _, _, _, _, _, _, _, _, _, z⟩ => z.elim) (fun W pn xe tk _ => pss_cons (ps_expr (xe_callV (X := X.tr pn xe) tk C hr (ha pn xe) hNv hvv hdbv hcdv he hpl) hsw) (pss_one (ps_ret pe_bl)))
    (.named ⟨hgR, hdR, .inl T.gC⟩ hN hln (fun a oe cls d pn hz hf => su_if (hu200 hr) T hz hf hN hv hdb hcd hb) .nil)) ?_
  rintro D σ H ⟨φ, ρ, μ, rs, k⟩
  unfold sTryV at k
  split at k
  · rename_i q x hix
    split at k
    · rename_i hq
      obtain ⟨rfl, hie⟩ := hq
      split at k
      · rename_i n m hL
        split at k
        · rename_i ws μ1 e1
          split at k
          · rename_i hl
            split at k
            · rename_i er μ2 e2
              split at k
              · rename_i hE
                rw [isErr_eq hE] at e2
                refine ⟨φ, ρ, μ, rs, x, n, m, ws, μ1, hix, hL, e1, hl, ?_⟩
                rw [e2]
                intro φ1 H1 d v g1 c1 hd hp
                refine ⟨true, ex, fun _ a ha => ?_, fun z => by cases z⟩
                have rs1 := rs.step g1.w c1
                exact ⟨φ1, ρ.set ie none, μ2, rs1.off ie _, err_at rs1 hie hd hp, fun φ2 H2 g2 rs2 => k φ2 _ H2 (g1.trans g2) (by
                  have := rs2.off ie none
                  rw [show (ρ.set ie none).set ie none = ρ.set ie none from by simp] at this
                  exact this)⟩
              · exact k.elim
            · exact k.elim
          · exact k.elim
        · exact k.elim
      · exact k.elim
    · exact k.elim
  · exact k.elim
theorem trj_rt {j kk : Nat} {p0 p1 p2 p3 p4 p5 p8 p9 q1 q2 q3 : Pos} {pos : Pos} (hst : X.stack = X.env :: X.outer) (hfm : X.env.frame = some X.env.locals) (hNd : X.N.Nodup) (hln : X.env.kindOf ne = some .local) (c : CalX X.prog X.w X.K X.mg X.base k x n0 m) (hr : Room k X.A)
    (T : LowC X.K X.mg R f bmB newId (He.ga X.K R) fI) (ex : PySem.W.exmOne X.K (.ref (He.ga X.K R)) (.ref (He.ga X.K R)) = some true) (ha : ∀ pn xe, PA (X.tr pn xe) (e :: es) (tA X.K fa)) (hgR : Gl X R) (hdR : (R == ("__debug__" : Str)) = false)
    (hN : X.N[ie]? = some ne := by rfl) (hv : Vis X.env.scope ne := by first | exact Or.inl rfl | exact Or.inr (Or.inl rfl) | exact Or.inr (Or.inr rfl)) (hdb : (ne == ("__debug__" : Str)) = false := by decide) (hcd : (ne == ("__classdict__" : Str)) = false := by decide) (hg : Gl X x := by rfl) (hdx : (x == ("__debug__" : Str)) = false := by decide)
    (hb : attributeBase (.Name ne p1) f X.env (eval (.Name ne p1) X.env) = eval (.Name ne p1) X.env := by rfl) (he : starEach (e :: es) X.env = (false, eval e X.env) :: starEach es X.env := by rfl) (hpl : (backTo q2 (starEach es X.env)).any (·.1) = false := by rfl) (hsw : swapsWith (.Call (.Name x q1) (e :: es) [] q2) none q3.line X.env = pure false := by rfl) :
    PS X (.Try [.Expr (.Call (.Name x q1) (e :: es) [] q2) q3] [.ExceptHandler (some (.Name R p0)) (some ne) [.Return (some (.Compare (.Attribute (.Name ne p1) f p2) [.Eq] [.Tuple [.Constant (.str t) j p3] kk p4] p5)) p8] p9] [] [] pos) (tS X.K (sTryR n0 m ie R f t fa)) := by
  refine PS.to (ps_try_mix (l := [(.ref (He.ga X.K R), some ie, tsRt X.K ie (He.ga X.K R) f t)]) (Wo := fun _ _ _ _ => False) (tb := fun W => tDrop (tXW X.K W n0 m fa)) hst hfm hNd (fun u s' ⟨_, _, _, _, _, _, _, _, _, _, _, _, _, _, _, _, z⟩ => z.elim) (fun W pn xe tk _ => pss_one (ps_expr (xe_callW (X := X.tr pn xe) tk c hr (ha pn xe) hg hdx he hpl) hsw))
    (.named ⟨hgR, hdR, .inl T.gC⟩ hN hln (fun a oe cls d pn hz hf => su_rt (hu200 hr) T hz hf hN hv hdb hcd hb) .nil)) ?_
  rintro D σ H ⟨φ, ρ, μ, rs, k⟩
  unfold sTryR at k
  split at k
  · rename_i hie
    split at k
    · rename_i ws μ1 e1
      split at k
      · rename_i hl
        split at k
        · rename_i er μ2 e2
          split at k
          · rename_i hE
            rw [isErr_eq hE] at e2
            refine ⟨φ, ρ, μ, rs, ws, μ1, e1, hl, ?_⟩
            rw [e2]
            intro φ1 H1 d v g1 c1 hd hp
            refine ⟨true, ex, fun _ a ha => ?_, fun z => by cases z⟩
            have rs1 := rs.step g1.w c1
            exact ⟨φ1, ρ.set ie none, μ2, rs1.off ie _, err_at rs1 hie hd hp, fun φ2 H2 g2 rs2 => k φ2 (.bl true) H2 (g1.trans g2) rs2.c rfl⟩
          · exact k.elim
        · exact k.elim
      · exact k.elim
    · exact k.elim
  · exact k.elim
end
end VL
end
section
set_option Elab.async false
set_option linter.all false
set_option maxRecDepth 100000
/-! enumerate over a tuple, a list of data -/
namespace VL
open PySem PySem.Spec PyProof.Rows L2
variable [LawTabs]
set_option maxHeartbeats 1000000 in
theorem meets_enum1 {v : Value} {o : Obj} {H : Heap → Prop} (B : Begins v o H) :
    Meets (Builtin.«enumerate.__new__» ⟨[.type "enumerate", v], []⟩) (fun _ R s => H s.heap ∧
      R (.ok (.ret (.ref (s.heap.push o).objs.size))) { s with heap := (s.heap.push o).push { cls := .type "enumerate", data := .fields #[.none, .bool false, .ref s.heap.objs.size, rawInt 0, .none, .none] } }) :=
  .of_wp fun prog w A R s h => by
    obtain ⟨hp, g, d, tk, os⟩ := s; obtain ⟨h1, h⟩ := h
    have hsub := sub_enumerate
    have q1 : ∀ {A' : Around} {E : Value → Shared → Prop} {Q : Value → Shared → Prop}, Q (.ref hp.objs.size) ⟨hp.push o, g, d, tk, os⟩ → wpAny (model prog w) A' (pyIter v) Q E ⟨hp, g, d, tk, os⟩ :=
      fun q => B.iter prog w _ _ ⟨hp, g, d, tk, os⟩ _ h1 q
    wp_walk using q1
    refine wpAny_stack_any fun st => wpAny_pure ?_
    split
    · rename_i c _ _ _ _ _
      cases (c == Value.type "enumerate") <;> (wp_walk using q1; exact ⟨_, rfl, h⟩)
    · wp_walk using q1
      exact ⟨_, rfl, h⟩
theorem enum_new {prog : Program} {w : World} {A : Around} {E : Value → Shared → Prop} {s : Shared} {v : Value} {o : Obj} {H : Heap → Prop} {Q : Value → Shared → Prop} (B : Begins v o H) (h1 : H s.heap)
    (h : ∀ h', IsEnum h' (s.heap.objs.size + 1) s.heap.objs.size 0 .none → h'.get? s.heap.objs.size = some o → (∀ b o, s.heap.get? b = some o → h'.get? b = some o) → Q (.ref (s.heap.objs.size + 1)) { s with heap := h' }) :
    wpAny (model prog w) A (call (.type "enumerate") [v]) Q E s := by
  refine callType_new F.called_enumerate (by decide) (F.typeCall_enumerate_1 _) (F.newCall_enumerate_1 _) (fun obj => F.args_object_init_2 obj _) F.entry_enumerate_new (meets_enum1 B) ⟨h1, ?_⟩
  have hz : (s.heap.push o).objs.size = s.heap.objs.size + 1 := Heap.size_push ..
  show _ ∧ _
  rw [hz]
  have he : IsEnum ((s.heap.push o).push { cls := .type "enumerate", data := .fields #[.none, .bool false, .ref s.heap.objs.size, rawInt 0, .none, .none] }) (s.heap.objs.size + 1) s.heap.objs.size 0 .none := by
    have := Heap.get?_push_size (s.heap.push o) (o := { cls := .type "enumerate", data := .fields #[.none, .bool false, .ref s.heap.objs.size, rawInt 0, .none, .none] }) rfl
    rw [hz] at this; exact this
  exact ⟨⟨_, he, rfl⟩, h _ he (Heap.get?_push_of_some _ (Heap.get?_push_size _ B.free)) fun b o x => Heap.get?_push_of_some _ (Heap.get?_push_of_some _ x)⟩
/-- the items of the tuple at a, each in a new pair -/
def IteT (K : PySem.W.Frag) (a : Addr) : It :=
  ⟨fun i H => ∃ (xs : List V) (x : V), SqT K H a xs ∧ xs[i]? = some x, fun i H v H' => ∃ T x, v = .ref T ∧ H T = none ∧ H' = upd H T (.tup [.int (i : Nat), x]) ∧ ∀ xs, SqT K H a xs → xs[i]? = some x, fun i H => ∃ xs : List V, SqT K H a xs ∧ xs.length ≤ i⟩
theorem tup_ne {h : Heap} {a it : Addr} {its : Array Value} {n : String} {o : Obj} (p : IsTup h a its) (e : h.get? it = some o) (hc : o.cls = .type n) (hn : n ≠ "tuple") : a ≠ it := fun z => by
  obtain ⟨o2, e2, c2, _⟩ := p
  rw [z, e] at e2
  cases e2
  rw [hc] at c2
  exact hn (by cases c2; rfl)
theorem turn_enumT {P : Program} {w : World} {K : PySem.W.Frag} {elts : List Expr} {kk : Nat} {tpos : Pos} (a e it : Addr) :
    Turn P w K (.Tuple elts kk tpos) (IteT K a) [e, it] e (fun i h => (∃ old, IsEnum h e it ((i : Nat) : Int) old) ∧ h.IsTupleIter it a i ∧ e ≠ it) where
  mem := by simp
  obj := fun i h st b hb => by
    obtain ⟨⟨old, he⟩, ⟨o, ho, hc, hd⟩, _⟩ := st
    have e' : b = e ∨ b = it := by simpa using hb
    rcases e' with z | z
    · rw [z]; exact ⟨_, he, fun v q => nomatch q⟩
    · rw [z]; exact ⟨o, ho, fun v q => by rw [hd] at q; cases q⟩
  keep := fun i h h' st k => let ⟨⟨old, he⟩, hi, hne⟩ := st; ⟨⟨old, k e (by simp) _ he⟩, hi.at fun o q => k it (by simp) o q, hne⟩
  item := by
    intro X hP hw hK hc i pins s σ H E I hf st hg
    subst hP hw hK
    obtain ⟨⟨old, he⟩, hit, hne⟩ := st
    obtain ⟨xs, x, hq, hx⟩ := hg
    obtain ⟨its, rv, p, hz⟩ := I.tuple hq
    obtain ⟨u, hu, ru⟩ := rv.get hx
    have hel : e < s.heap.objs.size := Heap.lt_size he
    have hil : it < s.heap.objs.size := by obtain ⟨_, q, _⟩ := hit; exact Heap.lt_size q
    have ne1 : a ≠ it := by obtain ⟨_, q, qc, _⟩ := id hit; exact tup_ne p q qc (by decide)
    have ne2 : a ≠ e := tup_ne p he rfl (by decide)
    have hl : i < its.toArray.size := by
      have : its[i]? = some u := hu
      have := (List.getElem?_eq_some_iff.mp this).1
      simpa using this
    refine wpAny_pyNext_enum_itemC (Draws.tuple (show X.A.in1.handled = none from I.ok.hd hc) it a ne1 its.toArray) he ⟨hit, show s.heap.IsTuple a its.toArray from p⟩ hl hne (by
      intro hm
      have : e = it ∨ e = a := by simpa using hm
      rcases this with z | z
      · exact hne z
      · exact ne2 z.symm) fun y h' tk hy ho hit' hT hsz hk => ?_
    have ey : y = u := by
      have h1 : its[i]? = some y := by simpa using hy
      have h2 : its[i]? = some u := hu
      rw [h1] at h2; cases h2; rfl
    subst ey
    refine ⟨_, rfl, wpAny_letOwnedTupleGo_enum (s := { s with heap := h', toks := tk + 1 }) ho fun h'' he' sb => ?_⟩
    have hT2 : h''.get? s.heap.objs.size = some { cls := .type "tuple", data := .seq #[.int i tk, y] } := (sb.2 _ (Nat.ne_of_gt hel)).trans hT
    have new : ObjOk X.prog X.w (upd H s.heap.objs.size (.tup [.int (i : Nat), x])) h'' s.heap.objs.size (.tup [.int (i : Nat), x]) :=
      ⟨by show 2 ≤ sizeLine; decide, [.int i tk, y], .cons ⟨_, rfl⟩ (.cons ru .nil), ⟨_, hT2, rfl, _, rfl⟩⟩
    have I1 : Inv X pins σ (upd H s.heap.objs.size (.tup [.int (i : Nat), x])) { s with heap := h'', toks := tk + 1 } :=
      I.turnedNew (ch := [e, it]) (fun b ob hb q => (sb.2 b (fun z => hb (by simp [z]))).trans (hk b ob (fun z => hb (by simp [z])) (fun z => hb (by simp [z])) q)) hf (Nat.le_refl _) new
    refine ⟨.ref s.heap.objs.size, _, I1, rfl, ⟨_, x, rfl, I.hok.fresh (Nat.le_refl _), rfl, fun ys hy => by rw [I.tuple_inj hy hq]; exact hx⟩, ⟨⟨y, ?_⟩, hit'.1.at fun o q => (sb.2 it (Ne.symm hne)).trans q, hne⟩, fun b hb => ?_⟩
    · have e1 : ((i + 1 : Nat) : Int) = (i : Int) + 1 := by omega
      rw [e1]; exact he'
    · have hb' : b < s.heap.objs.size := by
        have e' : b = e ∨ b = it := by simpa using hb
        rcases e' with z | z
        · rw [z]; exact hel
        · rw [z]; exact hil
      rw [upd_ne (Nat.ne_of_lt hb')]
      exact (hf b hb).1
  done := by
    intro X hP hw hK hc i pins s σ H E I hf st hg
    subst hP hw hK
    obtain ⟨⟨old, he⟩, hit, hne⟩ := st
    obtain ⟨xs, hq, hx⟩ := hg
    obtain ⟨its, rv, p, hz⟩ := I.tuple hq
    obtain ⟨f0, f1, f2, f3, f4, f5⟩ := hf it (by simp)
    have hl := rv.length
    have hT : s.TypeIs (.ref e) "enumerate" := ⟨_, he, rfl⟩
    unfold pyNext
    refine wpAny_bind (wpAny_attempt (wpAny_callSpecial?_slot (name := Str.ofString "__next__") hT F.slot_enumerate_next
      (wpAny_call_entry F.slot_enumerate_next hT F.entry_enumerate_next ?_ (F.args_enumerate_next_1 _))))
    show wpAny _ _ (field (.ref e) 2 >>= _) _ _ _
    refine wpAny_bind (wpAny_field he rfl (x := .ref it) rfl ?_)
    refine wpAny_bind (wpAny_nextOf_tuple_end (show X.A.in1.handled = none from I.ok.hd hc) hit (show s.heap.IsTuple a its.toArray from p) (by simp; omega) fun h' x eb hx' => ?_)
    obtain ⟨o, ho, hcl⟩ := hx'
    refine wpAny_bind (wpAny_isInstance (T := "StopIteration") (b := true) ⟨o, ho, hcl⟩ isSubtype_stop ?_)
    exact wpAny_pure ⟨rfl, I.turned (t' := s.toks) (fun b o hb q => eb b o hb q) f0 f1 f3 f4 f5⟩
  self := fun A i s Q E st h => let ⟨⟨_, he⟩, _⟩ := st; wpAny_pyIter_enum he h
def iEnumA (K : PySem.W.Frag) (ta : TA) : TI := fun σ H R => ta σ H fun vs H1 => ∃ a xs, vs = [.ref a] ∧ ((SqL K H1 a xs ∧ R (Ite K a) H1) ∨ (SqT K H1 a xs ∧ R (IteT K a) H1))
theorem pi_enumA {X : Cx} {e : Expr} {ta : TA} {p pos tpos : Pos} {elts : List Expr} {kk : Nat} (hg : Gl X "enumerate") (hm : X.mg "enumerate" = none) (ha : PA X [e] ta) (hs : starEach [e] X.env = [(false, eval e X.env)] := by rfl) :
    PI X (.Tuple elts kk tpos) (.Call (.Name "enumerate" p) [e] [] pos) (iEnumA X.K ta) := by
  refine ⟨fun pins s σ H R I h => ?_⟩
  refine Call_ (ld_blt I hg hm boot_enumerate (PyProof.Rows.callWith_type1 (thn (ha.run pos pins s σ H _ I h) fun us s1 ⟨vs, H1, I1, r1, q1⟩ => ?_) hs rfl))
  obtain ⟨a, xs, ex, q1⟩ := q1
  subst ex
  cases r1 with
  | cons r rr =>
    cases rr
    cases r
    have fp : ∀ b ∈ [s1.heap.objs.size + 1, s1.heap.objs.size], FpOk X pins H1 b := fun b hb => by
      have e' : b = s1.heap.objs.size + 1 ∨ b = s1.heap.objs.size := by simpa using hb
      have hle : s1.heap.objs.size ≤ b := by
        rcases e' with z | z
        · rw [z]; exact Nat.le_add_right _ _
        · rw [z]; exact Nat.le_refl _
      exact I1.fpOk hle (I1.hok.fresh hle)
    rcases q1 with ⟨hq, q⟩ | ⟨hq, q⟩
    · obtain ⟨its, rv, p', hz⟩ := I1.list hq
      refine enum_new (begins_list a its.toArray) p'.isList fun h' he hit hk => wpAny_pyIter_enum he ?_
      exact ⟨s1.heap.objs.size + 1, [s1.heap.objs.size + 1, s1.heap.objs.size], _, _, H1, rfl, I1.kept (t' := s1.toks) hk, turn_enum a (s1.heap.objs.size + 1) s1.heap.objs.size, ⟨⟨.none, he⟩, ⟨_, hit, rfl, rfl⟩, Nat.succ_ne_self _⟩, fp, q⟩
    · obtain ⟨its, rv, p', hz⟩ := I1.tuple hq
      refine enum_new (begins_tuple a its.toArray) (show s1.heap.IsTuple a its.toArray from p') fun h' he hit hk => wpAny_pyIter_enum he ?_
      exact ⟨s1.heap.objs.size + 1, [s1.heap.objs.size + 1, s1.heap.objs.size], _, _, H1, rfl, I1.kept (t' := s1.toks) hk, turn_enumT a (s1.heap.objs.size + 1) s1.heap.objs.size, ⟨⟨.none, he⟩, ⟨_, hit, rfl, rfl⟩, Nat.succ_ne_self _⟩, fp, q⟩
def enumD (ds : List PyData) : List PyData := ds.mapIdx fun i d => .tuple [.int (i : Nat), d]
theorem enumD_get {ds : List PyData} {i : Nat} {d : PyData} (e : (enumD ds)[i]? = some d) : ∃ x, ds[i]? = some x ∧ d = .tuple [.int (i : Nat), x] := by
  unfold enumD at e
  rw [List.getElem?_mapIdx] at e
  obtain ⟨x, e1, e2⟩ := Option.map_eq_some_iff.mp e
  exact ⟨x, e1, e2.symm⟩
theorem enumD_len {ds : List PyData} : (enumD ds).length = ds.length := by simp [enumD]
@[simp] def iEnumV (f : EF) (ρ : Rho) (μ : Mu) : Option (List PyData × Option Nat × Mu) := match f ρ μ with
  | some (.d (.tuple ds), μ1) => some (enumD ds, none, μ1)
  | some (.d (.list ds), μ1) => some (enumD ds, none, μ1)
  | _ => none
theorem int_da {K : PySem.W.Frag} {A : List Addr} {H : Hp} {i : Int} : Da K A H (.int i) (.int i) := rfl
theorem ij_enumV {X : Cx} {e : Expr} {elts : List Expr} {kk : Nat} {f : EF} {p pos tpos : Pos} (hm : X.mg "enumerate" = none) (he : PE X e (tE X.K f)) (hg : Gl X "enumerate" := by rfl) (hs : starEach [e] X.env = [(false, eval e X.env)] := by rfl) :
    PI X (.Tuple elts kk tpos) (.Call (.Name "enumerate" p) [e] [] pos) (tI X.K (iEnumV f)) :=
  PI.to (pi_enumA hg hm (aj_cons he aj_nil hs) hs) fun σ H R ⟨φ, ρ, μ, ds, src, μ', rs, e, k⟩ => by
  unfold iEnumV at e
  split at e
  · rename_i es μ1 e1
    cases e
    refine ⟨φ, ρ, μ, [.d (.tuple es)], _, rs, by unfold aCons aNil; rw [e1]; rfl, fun φ1 vs H1 g1 c1 r1 => ?_⟩
    obtain ⟨v, ev, r⟩ := rvs1 r1
    obtain ⟨a, xs, e2, h1, h2⟩ := id r
    subst ev e2
    refine ⟨a, xs, rfl, .inr ⟨h1, k φ1 _ H1 g1 c1 fun φ' H' μ2 g c _ i => ?_⟩⟩
    have h1' := g.sqT h1
    have h2' := DaAll.step g _ _ h2
    refine ⟨fun d e => ?_, fun hl => ⟨xs, h1', by rw [← h2.len]; rw [enumD_len] at hl; exact hl⟩⟩
    obtain ⟨x, e3, rfl⟩ := enumD_get e
    obtain ⟨z, e4, e5⟩ := h2'.get e3
    refine ⟨⟨xs, z, h1', e4⟩, fun x' H'' hy => ?_⟩
    obtain ⟨T, x1, rfl, hT, rfl, q1⟩ := hy
    have w1 := q1 xs h1'
    rw [e4] at w1; cases w1
    exact ⟨Grow.laid hT, c.laid hT, pair_da hT int_da e5⟩
  · rename_i es μ1 e1
    cases e
    refine ⟨φ, ρ, μ, [.d (.list es)], _, rs, by unfold aCons aNil; rw [e1]; rfl, fun φ1 vs H1 g1 c1 r1 => ?_⟩
    obtain ⟨v, ev, r⟩ := rvs1 r1
    obtain ⟨a, xs, e2, _, h1, h2⟩ := id r
    subst ev e2
    refine ⟨a, xs, rfl, .inl ⟨SqL.of h1, k φ1 _ H1 g1 c1 fun φ' H' μ2 g c _ i => ?_⟩⟩
    obtain ⟨b, ys, e3, _, h1', h2'⟩ := Da.step g (.list es) _ r
    cases e3
    have ll : xs.length = ys.length := by rw [← h2.len, h2'.len]
    refine ⟨fun d e => ?_, fun hl => ⟨ys, SqL.of h1', by rw [← ll, ← h2.len]; rw [enumD_len] at hl; exact hl⟩⟩
    obtain ⟨x, e3, rfl⟩ := enumD_get e
    obtain ⟨z, e4, e5⟩ := h2'.get e3
    refine ⟨⟨ys, z, SqL.of h1', e4⟩, fun x' H'' hy => ?_⟩
    obtain ⟨T, x1, rfl, hT, rfl, q1⟩ := hy
    have w1 := q1 ys (SqL.of h1')
    rw [e4] at w1; cases w1
    exact ⟨Grow.laid hT, c.laid hT, pair_da hT int_da e5⟩
  · cases e
end VL
end
section
set_option Elab.async false
set_option linter.all false
set_option maxRecDepth 100000
set_option exponentiation.threshold 30000
/-! math.lcm of numbers of up to some two thousand digits -/
namespace VL
open PySem PySem.Spec PyProof.Rows L2
variable [LawTabs]
def lcmOk (a b : Int) : Prop := a.natAbs.log2 < 8000 ∧ b.natAbs.log2 < 8000 ∧ (a.natAbs.lcm b.natAbs).log2 < bitsLine
theorem lcm_call {prog : Program} {w : World} {A : Around} {E : Value → Shared → Prop} {s : Shared} {Q : Value → Shared → Prop} {a b : Int} {t u : Tok} (h0 : lcmOk a b) (h : Q (.int ((a.natAbs.lcm b.natAbs : Nat) : Int) s.toks) { s with toks := s.toks + 1 }) :
    wpAny (model prog w) A (call (.builtin "math.lcm") [.int a t, .int b u]) Q E s := by
  obtain ⟨ha, hb, hl⟩ := h0
  have e1 : Nat.lcm 1 a.natAbs = a.natAbs := by simp [Nat.lcm]
  have m1 : (max 1 a.natAbs).log2 < 8000 := by
    rcases Nat.le_total a.natAbs 1 with z | z
    · rw [Nat.max_eq_left z]; decide
    · rw [Nat.max_eq_right z]; exact ha
  have m2 : (max a.natAbs b.natAbs).log2 < 8000 := by
    rcases Nat.le_total a.natAbs b.natAbs with z | z
    · rw [Nat.max_eq_right z]; exact hb
    · rw [Nat.max_eq_left z]; exact ha
  have g := PySem.W.mg_run_lcm a t b u (by omega) (by omega) (by rw [e1]; exact hl)
  rw [e1] at g
  exact call_function_meets PySem.W.MGF.kind_lcm PySem.W.MGF.plain_lcm PySem.W.MGF.entry_lcm (PySem.W.MGF.args_lcm _ _) g.meets h
def rLcm : List V → Hp → VK → Prop := fun vs H Q => ∃ a b : Int, vs = [.int a, .int b] ∧ lcmOk a b ∧ Q (.int ((a.natAbs.lcm b.natAbs : Nat) : Int)) H
theorem cr_lcm {X : Cx} : CallR X (.builtin "math.lcm") rLcm := by
  intro pins s σ H vs us Q I r h
  obtain ⟨a, b, rfl, h0, q⟩ := h
  obtain ⟨t, u, rfl⟩ := Vals.int2 r
  exact lcm_call h0 ⟨.int _, H, I.tok _, ⟨_, rfl⟩, q⟩
open Classical in
@[simp] noncomputable def oLcm (_ : Mu) (ws : List Vw) : Option Vw := match ws with
  | [.d (.int i), .d (.int j)] => if lcmOk i j then some (.d (.int (i.natAbs.lcm j.natAbs : Nat))) else none
  | _ => none
theorem oLcm_ok {K : PySem.W.Frag} : OL K rLcm oLcm := by
  intro φ H μ ws w vs Q c r e k
  unfold oLcm at e
  split at e
  · rename_i i j
    split at e
    · rename_i h0
      cases e
      obtain ⟨u, v, rfl, h, h2⟩ := rvs2 r
      cases h
      cases h2
      exact ⟨i, j, rfl, h0, post_here k c rfl⟩
    · cases e
  · cases e
end VL
end
section
set_option Elab.async false
set_option linter.all false
set_option maxRecDepth 100000
/-! zip of three tuples -/
namespace VL
open PySem PySem.Spec PyProof.Rows L2
variable [LawTabs]
def Itz3 (K : PySem.W.Frag) (n : Nat) (a b c : Addr) : It :=
  ⟨fun i H => ∃ (xs ys zs : List V) (x y z : V), SqT K H a xs ∧ SqT K H b ys ∧ SqT K H c zs ∧ xs[i]? = some x ∧ ys[i]? = some y ∧ zs[i]? = some z ∧ i < n,
    fun i H v H' => ∃ T x y z, v = .ref T ∧ H T = none ∧ H' = upd H T (.tup [x, y, z]) ∧ (∀ l, SqT K H a l → l[i]? = some x) ∧ (∀ l, SqT K H b l → l[i]? = some y) ∧ ∀ l, SqT K H c l → l[i]? = some z,
    fun i H => ∃ xs ys zs : List V, SqT K H a xs ∧ SqT K H b ys ∧ SqT K H c zs ∧ n ≤ xs.length ∧ n ≤ ys.length ∧ n ≤ zs.length ∧ (n = xs.length ∨ n = ys.length ∨ n = zs.length) ∧ n ≤ i⟩
theorem turn_zip3 {P : Program} {w : World} {K : PySem.W.Frag} {elts : List Expr} {kk : Nat} {tpos : Pos} {n : Nat} {a b c z TI TO i1 i2 i3 : Addr} (D : ZipSep3 z TI TO i1 i2 i3 [i1, a] [i2, b] [i3, c]) :
    Turn P w K (.Tuple elts kk tpos) (Itz3 K n a b c) [z, TI, TO, i1, i2, i3] z (fun i h => i ≤ n ∧ IsZip h z TI TO .none ∧ IsTupOf3 h TI (.ref i1) (.ref i2) (.ref i3) ∧ (∃ x y u, IsTupOf3 h TO x y u) ∧ h.IsTupleIter i1 a i ∧ h.IsTupleIter i2 b i ∧ h.IsTupleIter i3 c i) where
  mem := by simp
  obj := fun i h st q hq => by
    obtain ⟨_, hz, hTI, ⟨x, y, u, hTO⟩, ⟨o1, e1, _, d1⟩, ⟨o2, e2, _, d2⟩, ⟨o3, e3, _, d3⟩⟩ := st
    simp only [List.mem_cons, List.not_mem_nil, or_false] at hq
    rcases hq with rfl | rfl | rfl | rfl | rfl | rfl
    · exact ⟨_, hz, fun v q => nomatch q⟩
    · exact ⟨_, hTI, fun v q => nomatch q⟩
    · exact ⟨_, hTO, fun v q => nomatch q⟩
    · exact ⟨o1, e1, fun v q => by rw [d1] at q; cases q⟩
    · exact ⟨o2, e2, fun v q => by rw [d2] at q; cases q⟩
    · exact ⟨o3, e3, fun v q => by rw [d3] at q; cases q⟩
  keep := fun i h h' st k => by
    obtain ⟨hin, hz, hTI, ⟨x, y, u, hTO⟩, h1, h2, h3⟩ := st
    exact ⟨hin, k z (by simp) _ hz, k TI (by simp) _ hTI, ⟨x, y, u, k TO (by simp) _ hTO⟩, h1.at fun o q => k i1 (by simp) o q, h2.at fun o q => k i2 (by simp) o q, h3.at fun o q => k i3 (by simp) o q⟩
  item := by
    intro X hP hw hK hc i pins s σ H E I hf st hg
    subst hP hw hK
    obtain ⟨hin, hz, hTI, ⟨x0, y0, u0, hTO⟩, h1, h2, h3⟩ := st
    obtain ⟨xs, ys, zs, x, y, v, hqx, hqy, hqz, hx, hy, hv, hlt⟩ := hg
    obtain ⟨its, rv, p, _⟩ := I.tuple hqx
    obtain ⟨its2, rv2, p2, _⟩ := I.tuple hqy
    obtain ⟨its3, rv3, p3, _⟩ := I.tuple hqz
    obtain ⟨u1, hu1, ru1⟩ := rv.get hx
    obtain ⟨u2, hu2, ru2⟩ := rv2.get hy
    obtain ⟨u3, hu3, ru3⟩ := rv3.get hv
    have hzl : z < s.heap.objs.size := Heap.lt_size hz
    have hh : X.A.in1.handled = none := I.ok.hd hc
    have ne : ∀ {t it : Addr} {its : Array Value} {j : Nat}, IsTup s.heap t its → s.heap.IsTupleIter it t j → t ≠ it := fun p ⟨_, q, qc, _⟩ => tup_ne p q qc (by decide)
    have lt : ∀ {l : List Value} {u : Value}, l[i]? = some u → i < l.toArray.size := fun h => by
      have := (List.getElem?_eq_some_iff.mp h).1
      simpa using this
    refine wpAny_pyNext_zipD3_item D (Draws.tuple hh i1 a (ne p h1) its.toArray) (Draws.tuple hh i2 b (ne p2 h2) its2.toArray) (Draws.tuple hh i3 c (ne p3 h3) its3.toArray) hz hTI hTO ⟨h1, show s.heap.IsTuple a its.toArray from p⟩ ⟨h2, show s.heap.IsTuple b its2.toArray from p2⟩ ⟨h3, show s.heap.IsTuple c its3.toArray from p3⟩ (lt hu1) (lt hu2) (lt hu3) fun y1 y2 y3 h' tk e1 e2 e3 z' TO' h1' h2' h3' hT hsz hk => ?_
    have same : ∀ {l : List Value} {u y : Value}, l.toArray[i]? = some y → l[i]? = some u → y = u := fun {l u y} h h2 => by
      have h' : l[i]? = some y := by simpa using h
      rw [h'] at h2; cases h2; rfl
    obtain rfl := same e1 hu1
    obtain rfl := same e2 hu2
    obtain rfl := same e3 hu3
    refine ⟨_, rfl, wpAny_letOwnedTupleGo_zip (s := { s with heap := h', toks := tk }) z' fun h'' z'' sb => ?_⟩
    have hT2 : h''.get? s.heap.objs.size = some { cls := .type "tuple", data := .seq #[y1, y2, y3] } := (sb.2 _ (Nat.ne_of_gt hzl)).trans hT
    have new : ObjOk X.prog X.w (upd H s.heap.objs.size (.tup [x, y, v])) h'' s.heap.objs.size (.tup [x, y, v]) :=
      ⟨by show 3 ≤ sizeLine; decide, [y1, y2, y3], .cons ru1 (.cons ru2 (.cons ru3 .nil)), ⟨_, hT2, rfl, _, rfl⟩⟩
    have I1 : Inv X pins σ (upd H s.heap.objs.size (.tup [x, y, v])) { s with heap := h'', toks := tk } :=
      I.turnedNew (t' := tk) (ch := [z, TI, TO, i1, i2, i3]) (fun q o hb e => (sb.2 q (fun q' => hb (by simp [q']))).trans (hk q o (fun q' => hb (by simp [q'])) (fun q' => hb (by simp [q'])) (fun q' => hb (by simp [q'])) (fun q' => hb (by simp [q'])) (fun q' => hb (by simp [q'])) e)) hf (Nat.le_refl _) new
    refine ⟨.ref s.heap.objs.size, _, I1, rfl, ⟨_, x, y, v, rfl, I.hok.fresh (Nat.le_refl _), rfl, fun l hl => by rw [I.tuple_inj hl hqx]; exact hx, fun l hl => by rw [I.tuple_inj hl hqy]; exact hy, fun l hl => by rw [I.tuple_inj hl hqz]; exact hv⟩, ⟨hlt, z'', ?_, ⟨y1, y2, y3, ?_⟩, ?_, ?_, ?_⟩, fun q hq => ?_⟩
    · exact (sb.2 _ D.TIz).trans (hk _ _ D.TIz D.TITO D.TIi1 D.TIi2 D.TIi3 hTI)
    · exact (sb.2 _ D.TOz).trans TO'
    · exact h1'.1.at fun o q => (sb.2 _ (Ne.symm D.zi1)).trans q
    · exact h2'.1.at fun o q => (sb.2 _ (Ne.symm D.zi2)).trans q
    · exact h3'.1.at fun o q => (sb.2 _ (Ne.symm D.zi3)).trans q
    · have hqs : q < s.heap.objs.size := by
        have hq' := hq
        simp only [List.mem_cons, List.not_mem_nil, or_false] at hq'
        rcases hq' with r | r | r | r | r | r
        · rw [r]; exact hzl
        · rw [r]; exact Heap.lt_size hTI
        · rw [r]; exact Heap.lt_size hTO
        · rw [r]; obtain ⟨_, e, _⟩ := h1; exact Heap.lt_size e
        · rw [r]; obtain ⟨_, e, _⟩ := h2; exact Heap.lt_size e
        · rw [r]; obtain ⟨_, e, _⟩ := h3; exact Heap.lt_size e
      rw [upd_ne (Nat.ne_of_lt hqs)]
      exact (hf q hq).1
  done := by
    intro X hP hw hK hc i pins s σ H E I hf st hg
    subst hP hw hK
    obtain ⟨hin, hz, hTI, ⟨x0, y0, u0, hTO⟩, h1, h2, h3⟩ := st
    obtain ⟨xs, ys, zs, hqx, hqy, hqz, l1, l2, l3, hend, hni⟩ := hg
    obtain ⟨its, rv, p, _⟩ := I.tuple hqx
    obtain ⟨its2, rv2, p2, _⟩ := I.tuple hqy
    obtain ⟨its3, rv3, p3, _⟩ := I.tuple hqz
    have hh : X.A.in1.handled = none := I.ok.hd hc
    have ne : ∀ {t it : Addr} {its : Array Value} {j : Nat}, IsTup s.heap t its → s.heap.IsTupleIter it t j → t ≠ it := fun p ⟨_, q, qc, _⟩ => tup_ne p q qc (by decide)
    have r1 := rv.length
    have r2 := rv2.length
    have r3 := rv3.length
    refine wpAny_pyNext_zipD3_end D (Draws.tuple hh i1 a (ne p h1) its.toArray) (Draws.tuple hh i2 b (ne p2 h2) its2.toArray) (Draws.tuple hh i3 c (ne p3 h3) its3.toArray) hz hTI hTO ⟨h1, show s.heap.IsTuple a its.toArray from p⟩ ⟨h2, show s.heap.IsTuple b its2.toArray from p2⟩ ⟨h3, show s.heap.IsTuple c its3.toArray from p3⟩ (by simp; omega) (by simp; omega) (by simp; omega) (by simp; omega) fun h' tk hk => ?_
    exact ⟨rfl, I.turnedL (t' := tk) (ch := [z, TI, TO, i1, i2, i3]) (fun q o hb e => hk q o (fun q' => hb (by simp [q'])) (fun q' => hb (by simp [q'])) (fun q' => hb (by simp [q'])) (fun q' => hb (by simp [q'])) (fun q' => hb (by simp [q'])) e) hf⟩
  self := fun A i s Q E st h => wpAny_pyIter_zip st.2.1 h
def iZip3A (K : PySem.W.Frag) (ta : TA) : TI := fun σ H R => ta σ H fun vs H1 => ∃ n a b c xs ys zs, vs = [.ref a, .ref b, .ref c] ∧ SqT K H1 a xs ∧ SqT K H1 b ys ∧ SqT K H1 c zs ∧ R (Itz3 K n a b c) H1
theorem pi_zip3 {X : Cx} {e e2 e3 : Expr} {ta : TA} {p pos tpos : Pos} {elts : List Expr} {kk : Nat} (hg : Gl X "zip") (hm : X.mg "zip" = none) (ha : PA X [e, e2, e3] ta)
    (hs : starEach [e, e2, e3] X.env = (false, eval e X.env) :: starEach [e2, e3] X.env := by rfl) (hpl : (backTo pos (starEach [e2, e3] X.env)).any (·.1) = false := by rfl) :
    PI X (.Tuple elts kk tpos) (.Call (.Name "zip" p) [e, e2, e3] [] pos) (iZip3A X.K ta) := by
  refine ⟨fun pins s σ H R I h => ?_⟩
  refine Call_ (ld_blt I hg hm boot_zip (PyProof.Rows.callWith_type1 (thn (ha.run pos pins s σ H _ I h) fun us s1 ⟨vs, H1, I1, r1, q1⟩ => ?_) hs hpl))
  obtain ⟨n, a, b, c, xs, ys, zs, ex, hx, hy, hz, q⟩ := q1
  subst ex
  obtain ⟨u1, u2, u3, rfl, ra, rb, rc⟩ : ∃ u1 u2 u3, us = [u1, u2, u3] ∧ RelV (.ref a) u1 ∧ RelV (.ref b) u2 ∧ RelV (.ref c) u3 := by
    cases r1 with
    | cons r rr =>
      cases rr with
      | cons r2 rr2 =>
        cases rr2 with
        | cons r3 rr3 =>
          cases rr3
          exact ⟨_, _, _, rfl, r, r2, r3⟩
  obtain rfl : u1 = .ref a := ra
  obtain rfl : u2 = .ref b := rb
  obtain rfl : u3 = .ref c := rc
  obtain ⟨i1, _, p1, _⟩ := I1.tuple hx
  obtain ⟨i2, _, p2, _⟩ := I1.tuple hy
  obtain ⟨i3, _, p3, _⟩ := I1.tuple hz
  have lt : ∀ {t : Addr} {its : Array Value}, IsTup s1.heap t its → t < s1.heap.objs.size := fun ⟨_, e, _⟩ => Heap.lt_size e
  refine zip_begins3 (begins_tuple a i1.toArray) (begins_tuple b i2.toArray) (begins_tuple c i3.toArray) (show s1.heap.IsTuple a i1.toArray from p1) (show s1.heap.IsTuple b i2.toArray from p2) (show s1.heap.IsTuple c i3.toArray from p3) fun h' hzp hTI hTO g1 g2 g3 _ hk => wpAny_pyIter_zip hzp ?_
  refine ⟨s1.heap.objs.size + 5, [s1.heap.objs.size + 5, s1.heap.objs.size + 3, s1.heap.objs.size + 4, s1.heap.objs.size, s1.heap.objs.size + 1, s1.heap.objs.size + 2], _, _, H1, rfl, I1.kept (t' := s1.toks) hk,
    turn_zip3 (zip_sep3 (fp1 := [a]) (fp2 := [b]) (fp3 := [c]) (by simpa using lt p1) (by simpa using lt p2) (by simpa using lt p3)), ⟨Nat.zero_le _, hzp, hTI, ⟨_, _, _, hTO⟩, ⟨_, g1, rfl, rfl⟩, ⟨_, g2, rfl, rfl⟩, ⟨_, g3, rfl, rfl⟩⟩, fun q hq => ?_, q⟩
  have hle : s1.heap.objs.size ≤ q := by
    simp only [List.mem_cons, List.not_mem_nil, or_false] at hq
    rcases hq with r | r | r | r | r | r <;> rw [r] <;> first | exact Nat.le_refl _ | exact Nat.le_add_right _ _
  exact I1.fpOk hle (I1.hok.fresh hle)
def zip3D (xs ys zs : List PyData) : List PyData := (xs.zip (ys.zip zs)).map fun p => .tuple [p.1, p.2.1, p.2.2]
theorem zip3D_len {xs ys zs : List PyData} : (zip3D xs ys zs).length = min xs.length (min ys.length zs.length) := by simp [zip3D]
theorem zip3D_get {xs ys zs : List PyData} {i : Nat} {d : PyData} (e : (zip3D xs ys zs)[i]? = some d) : ∃ x y z, xs[i]? = some x ∧ ys[i]? = some y ∧ zs[i]? = some z ∧ d = .tuple [x, y, z] ∧ i < min xs.length (min ys.length zs.length) := by
  have hl := (List.getElem?_eq_some_iff.mp e).1
  rw [zip3D_len] at hl
  unfold zip3D at e
  rw [List.getElem?_map] at e
  obtain ⟨⟨x, y, z⟩, e1, e2⟩ := Option.map_eq_some_iff.mp e
  obtain ⟨h1, h2⟩ := List.getElem?_zip_eq_some.mp e1
  obtain ⟨h3, h4⟩ := List.getElem?_zip_eq_some.mp h2
  exact ⟨x, y, z, h1, h3, h4, e2.symm, hl⟩
@[simp] def iZip3 (f g h : EF) (ρ : Rho) (μ : Mu) : Option (List PyData × Option Nat × Mu) := match f ρ μ with
  | some (.d (.tuple xs), μ1) => (match g ρ μ1 with
    | some (.d (.tuple ys), μ2) => (match h ρ μ2 with
      | some (.d (.tuple zs), μ3) => some (zip3D xs ys zs, none, μ3)
      | _ => none)
    | _ => none)
  | _ => none
theorem trip_da {K : PySem.W.Frag} {φ : Ph} {H : Hp} {T : Addr} {x y z : V} {d e f : PyData} (hT : H T = none) (h1 : Da K φ.av H d x) (h2 : Da K φ.av H e y) (h3 : Da K φ.av H f z) : Da K φ.av (upd H T (.tup [x, y, z])) (.tuple [d, e, f]) (.ref T) :=
  ⟨T, [x, y, z], rfl, SqT.of upd_same, x, [y, z], rfl, Da.step (Grow.laid hT).w _ _ h1, y, [z], rfl, Da.step (Grow.laid hT).w _ _ h2, z, [], rfl, Da.step (Grow.laid hT).w _ _ h3, rfl⟩
theorem rvs3 {K : PySem.W.Frag} {φ : Ph} {H : Hp} {x y z : Vw} {vs : List V} (h : RVs K φ H [x, y, z] vs) : ∃ u v w, vs = [u, v, w] ∧ RV K φ H x u ∧ RV K φ H y v ∧ RV K φ H z w := by
  obtain ⟨u, r, e, h1, v, r2, e2, h2, w, r3, e3, h3, e4⟩ := h
  have e4' : r3 = [] := e4
  subst e e2 e3 e4'
  exact ⟨u, v, w, rfl, h1, h2, h3⟩
theorem ij_zip3 {X : Cx} {e e2 e3 : Expr} {elts : List Expr} {kk : Nat} {f g h : EF} {p pos tpos : Pos} (hm : X.mg "zip" = none) (he : PE X e (tE X.K f)) (he2 : PE X e2 (tE X.K g)) (he3 : PE X e3 (tE X.K h)) (hg : Gl X "zip" := by rfl)
    (hs : starEach [e, e2, e3] X.env = (false, eval e X.env) :: starEach [e2, e3] X.env := by rfl) (hs2 : starEach [e2, e3] X.env = (false, eval e2 X.env) :: starEach [e3] X.env := by rfl) (hs3 : starEach [e3] X.env = (false, eval e3 X.env) :: starEach [] X.env := by rfl) (hpl : (backTo pos (starEach [e2, e3] X.env)).any (·.1) = false := by rfl) :
    PI X (.Tuple elts kk tpos) (.Call (.Name "zip" p) [e, e2, e3] [] pos) (tI X.K (iZip3 f g h)) :=
  PI.to (pi_zip3 hg hm (aj_cons he (aj_cons he2 (aj_cons he3 aj_nil hs3) hs2) hs) hs hpl) fun σ H R ⟨φ, ρ, μ, ds, src, μ', rs, e, k⟩ => by
  unfold iZip3 at e
  split at e
  · rename_i xs μ1 e1
    split at e
    · rename_i ys μ2 e2
      split at e
      · rename_i zs μ3 e3
        cases e
        have ea : aCons f (aCons g (aCons h aNil)) ρ μ = some ([.d (.tuple xs), .d (.tuple ys), .d (.tuple zs)], μ') := by simp only [aCons, aNil, e1, e2, e3]; rfl
        refine ⟨φ, ρ, μ, _, _, rs, ea, fun φ1 vs H1 g1 c1 r1 => ?_⟩
        obtain ⟨u, v, w, rfl, ⟨a, us, q1, h1, s1⟩, ⟨b, vs, q2, h2, s2⟩, ⟨c, ws, q3, h3, s3⟩⟩ := rvs3 r1
        subst q1 q2 q3
        refine ⟨min xs.length (min ys.length zs.length), a, b, c, us, vs, ws, rfl, h1, h2, h3, k φ1 _ H1 g1 c1 fun φ' H' μ2 g c' _ i => ?_⟩
        have h1' := g.sqT h1
        have h2' := g.sqT h2
        have h3' := g.sqT h3
        have s1' := DaAll.step g _ _ s1
        have s2' := DaAll.step g _ _ s2
        have s3' := DaAll.step g _ _ s3
        have l1 := s1.len
        have l2 := s2.len
        have l3 := s3.len
        refine ⟨fun d e => ?_, fun hl => ⟨us, vs, ws, h1', h2', h3', by omega, by omega, by omega, by omega, by rw [zip3D_len] at hl; exact hl⟩⟩
        obtain ⟨d1, d2, d3, e4, e5, e6, rfl, hlt⟩ := zip3D_get e
        obtain ⟨z1, f1, f2⟩ := s1'.get e4
        obtain ⟨z2, f3, f4⟩ := s2'.get e5
        obtain ⟨z3, f5, f6⟩ := s3'.get e6
        refine ⟨⟨us, vs, ws, z1, z2, z3, h1', h2', h3', f1, f3, f5, hlt⟩, fun x H'' hy => ?_⟩
        obtain ⟨T, x1, x2, x3, rfl, hT, rfl, q1, q2, q3⟩ := hy
        have w1 := q1 us h1'
        have w2 := q2 vs h2'
        have w3 := q3 ws h3'
        rw [f1] at w1; cases w1
        rw [f3] at w2; cases w2
        rw [f5] at w3; cases w3
        exact ⟨Grow.laid hT, c'.laid hT, trip_da hT f2 f4 f6⟩
      · cases e
    · cases e
  · cases e
end VL
end
section
set_option Elab.async false
set_option linter.all false
set_option maxRecDepth 100000
/-! [x] * n as a list that is changed -/
namespace VL
open PySem PySem.Spec PyProof.Rows L2
variable [LawTabs]
@[simp] def eRepC (f g : EF) (ρ : Rho) (μ : Mu) : Option (Vw × Mu) := match f ρ μ with
  | some (x, μ1) => (match g ρ μ1 with
    | some (.d (.int k), μ2) => (toLm μ2 x).bind fun ds => if k ≤ 1000000 ∧ -1000000 ≤ k ∧ ds.length * k.toNat ≤ 1000000 then some (.loc μ2.length, μ2 ++ [(List.replicate k.toNat ds).flatten]) else none
    | _ => none)
  | none => none
theorem ej_mulC {X : Cx} {a b : Expr} {pos : Pos} {f g : EF} (ha : PE X a (tE X.K f)) (hb : PE X b (tE X.K g)) : PE X (.BinOp a .Mult b pos) (tE X.K (eRepC f g)) := PE.to (pe_op op_rep ha hb) fun σ H Q ⟨φ, ρ, μ, w, μ', rs, e, k⟩ => by
  unfold eRepC at e
  split at e
  · rename_i x μ1 e1
    split at e
    · rename_i i μ2 e2
      obtain ⟨ds, e3, e4⟩ := Option.bind_eq_some_iff.mp e
      split at e4
      · rename_i hl
        cases e4
        refine ⟨φ, ρ, μ, x, μ1, rs, e1, fun φ1 u H1 g1 c1 r1 => ?_⟩
        refine ⟨φ1, ρ, μ1, .d (.int i), _, rs.step g1 c1, e2, fun φ2 v H2 g2 c2 r2 => ?_⟩
        obtain ⟨a, xs, rfl, h1, h2⟩ := toLm_ok c2 (RV.step g2 _ _ r1) e3
        cases r2
        exact ⟨a, i, xs, rfl, rfl, h1, by omega, by omega, by rw [← h2.len]; exact size_ok hl.2.2, new_cell c2 (da_rep h2 _) fun φ3 v3 H3 g3 c3 r3 => k φ3 v3 H3 ((g1.trans g2).trans g3) c3 r3⟩
      · cases e4
    · cases e
  · cases e
@[simp] def eCatC (f g : EF) (ρ : Rho) (μ : Mu) : Option (Vw × Mu) := match f ρ μ with
  | some (x, μ1) => (match g ρ μ1 with
    | some (y, μ2) => (toLm μ2 x).bind fun xs => (toLm μ2 y).bind fun ys => if xs.length + ys.length ≤ 1000000 then some (.loc μ2.length, μ2 ++ [xs ++ ys]) else none
    | none => none)
  | none => none
theorem ej_catC {X : Cx} {a b : Expr} {pos : Pos} {f g : EF} (ha : PE X a (tE X.K f)) (hb : PE X b (tE X.K g)) : PE X (.BinOp a .Add b pos) (tE X.K (eCatC f g)) := PE.to (pe_op op_cat ha hb) fun σ H Q ⟨φ, ρ, μ, w, μ', rs, e, k⟩ => by
  unfold eCatC at e
  split at e
  · rename_i x μ1 e1
    split at e
    · rename_i y μ2 e2
      obtain ⟨xs, e3, e4⟩ := Option.bind_eq_some_iff.mp e
      obtain ⟨ys, e5, e6⟩ := Option.bind_eq_some_iff.mp e4
      split at e6
      · rename_i hl
        cases e6
        refine ⟨φ, ρ, μ, x, μ1, rs, e1, fun φ1 u H1 g1 c1 r1 => ?_⟩
        refine ⟨φ1, ρ, μ1, y, _, rs.step g1 c1, e2, fun φ2 v H2 g2 c2 r2 => ?_⟩
        obtain ⟨a, us, q1, h1, s1⟩ := toLm_ok c2 (RV.step g2 _ _ r1) e3
        obtain ⟨b, vs, q2, h2, s2⟩ := toLm_ok c2 r2 e5
        have l1 := s1.len
        have l2 := s2.len
        exact ⟨a, b, us, vs, q1, q2, h1, h2, size_ok (by omega), new_cell c2 (s1.append s2) fun φ3 v3 H3 g3 c3 r3 => k φ3 v3 H3 ((g1.trans g2).trans g3) c3 r3⟩
      · cases e6
    · cases e
  · cases e
end VL
end
section
set_option Elab.async false
set_option linter.all false
set_option maxRecDepth 100000
/-! mirrors that can be reckoned out: the same, with tests that can be decided -/
namespace VC
open PySem PySem.Spec PyProof.Rows L2 VL
mutual
def eqD : PyData → PyData → Bool
  | .none, .none => true
  | .bool a, .bool b => a == b
  | .int a, .int b => a == b
  | .str a, .str b => decide (a = b)
  | .list a, .list b => eqL a b
  | .tuple a, .tuple b => eqL a b
  | .dict a, .dict b => eqP a b
  | _, _ => false
def eqL : List PyData → List PyData → Bool
  | [], [] => true
  | x :: xs, y :: ys => eqD x y && eqL xs ys
  | _, _ => false
def eqP : List (PyData × PyData) → List (PyData × PyData) → Bool
  | [], [] => true
  | (a, b) :: xs, (c, d) :: ys => eqD a c && (eqD b d && eqP xs ys)
  | _, _ => false
end
mutual
theorem eqD_iff : ∀ {x y : PyData}, eqD x y = true ↔ x = y
  | .none, y => by cases y <;> simp [eqD]
  | .bool a, y => by cases y <;> simp [eqD]
  | .int a, y => by cases y <;> simp [eqD]
  | .str a, y => by cases y <;> simp [eqD]
  | .list a, y => by cases y <;> simp [eqD, eqL_iff]
  | .tuple a, y => by cases y <;> simp [eqD, eqL_iff]
  | .dict a, y => by cases y <;> simp [eqD, eqP_iff]
theorem eqL_iff : ∀ {xs ys : List PyData}, eqL xs ys = true ↔ xs = ys
  | [], ys => by cases ys <;> simp [eqL]
  | x :: xs, ys => by cases ys <;> simp [eqL, eqD_iff (x := x), eqL_iff (xs := xs)]
theorem eqP_iff : ∀ {xs ys : List (PyData × PyData)}, eqP xs ys = true ↔ xs = ys
  | [], ys => by cases ys <;> simp [eqP]
  | (a, b) :: xs, ys => by
    cases ys with
    | nil => simp [eqP]
    | cons y ys =>
      obtain ⟨c, d⟩ := y
      simp [eqP, eqD_iff (x := a), eqD_iff (x := b), eqP_iff (xs := xs), and_assoc]
end
def sok (src : Option Nat) (all : List PyData) (μ : Mu) : Bool := match src with
  | none => true
  | some n => match μ[n]? with
    | some ds => eqL ds all
    | none => false
theorem sok_iff {src : Option Nat} {all : List PyData} {μ : Mu} : sok src all μ = true ↔ srcOk src all μ := by
  unfold sok srcOk
  cases src with
  | none => simp
  | some n =>
    cases h : μ[n]? with
    | none => simp [h]
    | some ds => simp [h, eqL_iff]
noncomputable def forM (t : TF) (body : SF) (src : Option Nat) (all : List PyData) : List PyData → Rho → Mu → Option SR
  | [], ρ, μ => bif sok src all μ then some (.nx ρ μ) else none
  | d :: ds, ρ, μ => bif sok src all μ then (match t (.d d) ρ with
    | none => none
    | some ρ1 => match body ρ1 μ with
      | some (.nx ρ2 μ2) => forM t body src all ds ρ2 μ2
      | some (.ct ρ2 μ2) => forM t body src all ds ρ2 μ2
      | some (.bk ρ2 μ2) => some (.nx ρ2 μ2)
      | some (.rt w μ2) => some (.rt w μ2)
      | none => none)
    else none
theorem forM_eq {t : TF} {body : SF} {src : Option Nat} {all : List PyData} : ∀ (ds : List PyData) (ρ : Rho) (μ : Mu), VL.forM t body src all ds ρ μ = forM t body src all ds ρ μ
  | [], ρ, μ => by
    unfold VL.forM forM
    by_cases h : srcOk src all μ
    · rw [if_pos h, sok_iff.mpr h]; rfl
    · rw [if_neg h, Bool.eq_false_iff.mpr (fun z => h (sok_iff.mp z))]; rfl
  | d :: ds, ρ, μ => by
    unfold VL.forM forM
    by_cases h : srcOk src all μ
    · rw [if_pos h, sok_iff.mpr h]
      simp only [cond_true]
      cases e1 : t (.d d) ρ with
      | none => rfl
      | some ρ1 =>
        dsimp only
        cases e2 : body ρ1 μ with
        | none => rfl
        | some r => cases r <;> first | rfl | exact forM_eq _ _ _
    · rw [if_neg h, Bool.eq_false_iff.mpr (fun z => h (sok_iff.mp z))]; rfl
noncomputable def sFor (fi : IF) (t : TF) (body : SF) (ρ : Rho) (μ : Mu) : Option SR := match fi ρ μ with
  | some (ds, src, μ1) => forM t body src ds ds ρ μ1
  | none => none
theorem sFor_eq {fi : IF} {t : TF} {body : SF} : VL.sFor fi t body = sFor fi t body := by
  funext ρ μ
  unfold VL.sFor sFor
  cases e : fi ρ μ with
  | none => rfl
  | some r => exact forM_eq _ _ _
noncomputable def lcM (t : TF) (tt : BF) (fe : EF) (src : Option Nat) (all : List PyData) : List PyData → Rho → Mu → Option (List PyData × Mu)
  | [], ρ, μ => bif sok src all μ then some ([], μ) else none
  | d :: ds, ρ, μ => bif sok src all μ then (match t (.d d) ρ with
    | none => none
    | some ρ1 => match tt ρ1 μ with
      | some (true, μ1) => (match fe ρ1 μ1 with
        | some (.d p, μ2) => (lcM t tt fe src all ds ρ μ2).map fun r => (p :: r.1, r.2)
        | _ => none)
      | some (false, μ1) => lcM t tt fe src all ds ρ μ1
      | none => none)
    else none
theorem lcM_eq {t : TF} {tt : BF} {fe : EF} {src : Option Nat} {all : List PyData} : ∀ (ds : List PyData) (ρ : Rho) (μ : Mu), VL.lcM t tt fe src all ds ρ μ = lcM t tt fe src all ds ρ μ
  | [], ρ, μ => by
    unfold VL.lcM lcM
    by_cases h : srcOk src all μ
    · rw [if_pos h, sok_iff.mpr h]; rfl
    · rw [if_neg h, Bool.eq_false_iff.mpr (fun z => h (sok_iff.mp z))]; rfl
  | d :: ds, ρ, μ => by
    unfold VL.lcM lcM
    by_cases h : srcOk src all μ
    · rw [if_pos h, sok_iff.mpr h]
      simp only [cond_true]
      cases e1 : t (.d d) ρ with
      | none => rfl
      | some ρ1 =>
        dsimp only
        cases e2 : tt ρ1 μ with
        | none => rfl
        | some r =>
          obtain ⟨b, μ1⟩ := r
          cases b
          · exact lcM_eq _ _ _
          · dsimp only
            cases e3 : fe ρ1 μ1 with
            | none => rfl
            | some r =>
              obtain ⟨w, μ2⟩ := r
              cases w <;> first | rfl | (dsimp only; rw [lcM_eq])
    · rw [if_neg h, Bool.eq_false_iff.mpr (fun z => h (sok_iff.mp z))]; rfl
noncomputable def eLc (fi : IF) (t : TF) (tt : BF) (fe : EF) (vs : List Nat) (ρ : Rho) (μ : Mu) : Option (Vw × Mu) := match fi ρ μ with
  | some (ds, src, μ1) => (match lcM t tt fe src ds ds (wipeR ρ vs) μ1 with
    | some (ps, μ2) => if ps.length ≤ 1000000 then some (.d (.list ps), μ2) else none
    | none => none)
  | none => none
theorem eLc_eq {fi : IF} {t : TF} {tt : BF} {fe : EF} {vs : List Nat} : VL.eLc fi t tt fe vs = eLc fi t tt fe vs := by
  funext ρ μ
  unfold VL.eLc eLc
  cases e : fi ρ μ with
  | none => rfl
  | some r => dsimp only; rw [lcM_eq] <;> rfl
noncomputable def lcM2 (t : TF) (tt : BF) (fi1 : IF) (t1 : TF) (tt1 : BF) (fe : EF) (vs1 : List Nat) (src : Option Nat) (all : List PyData) : List PyData → Rho → Mu → Option (List PyData × Mu)
  | [], ρ, μ => bif sok src all μ then some ([], μ) else none
  | d :: ds, ρ, μ => bif sok src all μ then (match t (.d d) ρ with
    | none => none
    | some ρ1 => match tt ρ1 μ with
      | some (true, μ1) => (match fi1 ρ1 μ1 with
        | some (ds1, src1, μ2) => (match lcM t1 tt1 fe src1 ds1 ds1 (wipeR ρ1 vs1) μ2 with
          | some (ps1, μ3) => (lcM2 t tt fi1 t1 tt1 fe vs1 src all ds ρ μ3).map fun r => (ps1 ++ r.1, r.2)
          | none => none)
        | none => none)
      | some (false, μ1) => lcM2 t tt fi1 t1 tt1 fe vs1 src all ds ρ μ1
      | none => none)
    else none
theorem lcM2_eq {t : TF} {tt : BF} {fi1 : IF} {t1 : TF} {tt1 : BF} {fe : EF} {vs1 : List Nat} {src : Option Nat} {all : List PyData} : ∀ (ds : List PyData) (ρ : Rho) (μ : Mu), VL.lcM2 t tt fi1 t1 tt1 fe vs1 src all ds ρ μ = lcM2 t tt fi1 t1 tt1 fe vs1 src all ds ρ μ
  | [], ρ, μ => by
    unfold VL.lcM2 lcM2
    by_cases h : srcOk src all μ
    · rw [if_pos h, sok_iff.mpr h]; rfl
    · rw [if_neg h, Bool.eq_false_iff.mpr (fun z => h (sok_iff.mp z))]; rfl
  | d :: ds, ρ, μ => by
    unfold VL.lcM2 lcM2
    by_cases h : srcOk src all μ
    · rw [if_pos h, sok_iff.mpr h]
      simp only [cond_true]
      cases e1 : t (.d d) ρ with
      | none => rfl
      | some ρ1 =>
        dsimp only
        cases e2 : tt ρ1 μ with
        | none => rfl
        | some r =>
          obtain ⟨b, μ1⟩ := r
          cases b
          · exact lcM2_eq _ _ _
          · dsimp only
            cases e3 : fi1 ρ1 μ1 with
            | none => rfl
            | some r =>
              obtain ⟨ds1, src1, μ2⟩ := r
              dsimp only
              rw [lcM_eq]
              cases e4 : lcM t1 tt1 fe src1 ds1 ds1 (wipeR ρ1 vs1) μ2 with
              | none => rfl
              | some r => dsimp only; rw [lcM2_eq]
    · rw [if_neg h, Bool.eq_false_iff.mpr (fun z => h (sok_iff.mp z))]; rfl
noncomputable def eLc2 (fi : IF) (t : TF) (tt : BF) (fi1 : IF) (t1 : TF) (tt1 : BF) (fe : EF) (vs vs1 : List Nat) (ρ : Rho) (μ : Mu) : Option (Vw × Mu) := match fi ρ μ with
  | some (ds, src, μ1) => (match lcM2 t tt fi1 t1 tt1 fe vs1 src ds ds (wipeR ρ vs) μ1 with
    | some (ps, μ2) => if ps.length ≤ 1000000 then some (.d (.list ps), μ2) else none
    | none => none)
  | none => none
theorem eLc2_eq {fi : IF} {t : TF} {tt : BF} {fi1 : IF} {t1 : TF} {tt1 : BF} {fe : EF} {vs vs1 : List Nat} : VL.eLc2 fi t tt fi1 t1 tt1 fe vs vs1 = eLc2 fi t tt fi1 t1 tt1 fe vs vs1 := by
  funext ρ μ
  unfold VL.eLc2 eLc2
  cases e : fi ρ μ with
  | none => rfl
  | some r => dsimp only; rw [lcM2_eq] <;> rfl
def rgB (lo hi : Int) : Bool := decide (-(2 ^ 62) ≤ lo) && (decide (lo < 2 ^ 62) && (decide (-(2 ^ 62) ≤ hi) && decide (hi < 2 ^ 62)))
theorem rgB_iff {lo hi : Int} : rgB lo hi = true ↔ rgOk lo hi := by
  unfold rgB rgOk
  simp only [Bool.and_eq_true, decide_eq_true_eq]
def iRgv (f : EF) (ρ : Rho) (μ : Mu) : Option (List PyData × Option Nat × Mu) := match f ρ μ with
  | some (.rg lo hi, μ1) => bif rgB lo hi then some (rngD lo (hi - lo).toNat, none, μ1) else none
  | _ => none
theorem iRgv_eq {f : EF} : VL.iRgv f = iRgv f := by
  funext ρ μ
  unfold VL.iRgv iRgv
  have k : ∀ {α : Type} (i j : Int) (x y : α), (@ite α (rgOk i j) (Classical.propDecidable _) x y) = bif rgB i j then x else y := fun i j x y => by
    by_cases h : rgOk i j
    · rw [if_pos h, rgB_iff.mpr h]; rfl
    · rw [if_neg h, Bool.eq_false_iff.mpr (fun z => h (rgB_iff.mp z))]; rfl
  cases e : f ρ μ with
  | none => rfl
  | some r =>
    obtain ⟨w, μ1⟩ := r
    cases w with
    | rg lo hi => exact k _ _ _ _
    | _ => rfl
def iRg1 (f : EF) (ρ : Rho) (μ : Mu) : Option (List PyData × Option Nat × Mu) := match f ρ μ with
  | some (.d (.int j), μ1) => bif rgB 0 j then some (rngD 0 j.toNat, none, μ1) else none
  | _ => none
theorem iRg1_eq {f : EF} : VL.iRg1 f = iRg1 f := by
  funext ρ μ
  unfold VL.iRg1 iRg1
  have k : ∀ {α : Type} (j : Int) (x y : α), (@ite α (rgOk 0 j) (Classical.propDecidable _) x y) = bif rgB 0 j then x else y := fun j x y => by
    by_cases h : rgOk 0 j
    · rw [if_pos h, rgB_iff.mpr h]; rfl
    · rw [if_neg h, Bool.eq_false_iff.mpr (fun z => h (rgB_iff.mp z))]; rfl
  cases e : f ρ μ with
  | none => rfl
  | some r =>
    obtain ⟨w, μ1⟩ := r
    cases w with
    | d p => cases p <;> first | rfl | exact k _ _ _
    | _ => rfl
def iRg2 (f g : EF) (ρ : Rho) (μ : Mu) : Option (List PyData × Option Nat × Mu) := match f ρ μ with
  | some (.d (.int i), μ1) => (match g ρ μ1 with
    | some (.d (.int j), μ2) => bif rgB i j then some (rngD i (j - i).toNat, none, μ2) else none
    | _ => none)
  | _ => none
theorem iRg2_eq {f g : EF} : VL.iRg2 f g = iRg2 f g := by
  funext ρ μ
  unfold VL.iRg2 iRg2
  have k : ∀ {α : Type} (i j : Int) (x y : α), (@ite α (rgOk i j) (Classical.propDecidable _) x y) = bif rgB i j then x else y := fun i j x y => by
    by_cases h : rgOk i j
    · rw [if_pos h, rgB_iff.mpr h]; rfl
    · rw [if_neg h, Bool.eq_false_iff.mpr (fun z => h (rgB_iff.mp z))]; rfl
  cases e : f ρ μ with
  | none => rfl
  | some r =>
    obtain ⟨w, μ1⟩ := r
    cases w with
    | d p =>
      cases p <;> first | rfl | (
        dsimp only
        cases e2 : g ρ μ1 with
        | none => rfl
        | some r =>
          obtain ⟨w, μ2⟩ := r
          cases w with
          | d p => cases p <;> first | rfl | exact k _ _ _ _
          | _ => rfl)
    | _ => rfl
end VC
end
section
set_option Elab.async false
set_option linter.all false
set_option maxRecDepth 100000
/-! mirrors that may raise, everywhere -/
namespace VY
open PySem PySem.Spec PyProof.Rows L2 VL
variable [LawTabs]
inductive Rs (α : Type) where
  | ok (a : α) (μ : Mu)
  | ex (e : Xc) (μ : Mu)
abbrev RM (α : Type) := Option (Rs α)
@[simp] def bd {α β : Type} (m : RM α) (k : α → Mu → RM β) : RM β := match m with
  | some (.ok a μ) => k a μ
  | some (.ex e μ) => some (.ex e μ)
  | none => none
@[simp] def lf {α : Type} (o : Option α) (μ : Mu) : RM α := match o with
  | some a => some (.ok a μ)
  | none => none
abbrev EX := Rho → Mu → RM Vw
abbrev BX := Rho → Mu → RM Bool
abbrev AX := Rho → Mu → RM (List Vw)
abbrev YM := Mu → List Vw → RM Vw
inductive S1 where
  | nx (ρ : Rho) | rt (w : Vw) | bk (ρ : Rho) | ct (ρ : Rho)
abbrev SX := Rho → Mu → RM S1
section
variable {K : PySem.W.Frag} {φ φ' : Ph} {H H' : Hp} {W : XK} {α β : Type}
def RsP (K : PySem.W.Frag) (φ : Ph) (H : Hp) (W : XK) (P : α → Mu → Prop) : RM α → Prop
  | some (.ok a μ) => P a μ
  | some (.ex e μ) => XP K φ H W e μ
  | none => False
theorem RsP.imp {P P' : α → Mu → Prop} {m : RM α} (h : RsP K φ H W P m) (k : ∀ a μ, P a μ → P' a μ) : RsP K φ H W P' m := by
  cases m with
  | none => exact h
  | some r => cases r with
    | ok a μ => exact k a μ h
    | ex e μ => exact h
theorem RsP.bd {P : β → Mu → Prop} {P' : α → Mu → Prop} {m : RM α} {k : α → Mu → RM β} (h : RsP K φ H W P (VY.bd m k)) (f : ∀ a μ, m = some (.ok a μ) → RsP K φ H W P (k a μ) → P' a μ) : RsP K φ H W P' m := by
  cases m with
  | none => exact h
  | some r => cases r with
    | ok a μ => exact f a μ rfl h
    | ex e μ => exact h
theorem RsP.grow {P P' : α → Mu → Prop} {m : RM α} (g : Grow φ φ' H H') (h : RsP K φ H W P m) (k : ∀ a μ, P a μ → P' a μ) : RsP K φ' H' W P' m := by
  cases m with
  | none => exact h
  | some r => cases r with
    | ok a μ => exact k a μ h
    | ex e μ => exact XP.grow g h
theorem RsP.lf {P : α → Mu → Prop} {o : Option α} {μ : Mu} (h : RsP K φ H W P (VY.lf o μ)) : ∃ a, o = some a ∧ P a μ := by
  cases o with
  | none => exact h.elim
  | some a => exact ⟨a, rfl, h⟩
/-- what is wished of a value -/
def VP (K : PySem.W.Frag) (φ : Ph) (H : Hp) (W : XK) (Q : VK) : RM Vw → Prop := RsP K φ H W fun w μ => Post K φ H μ w Q
def BP (K : PySem.W.Frag) (φ : Ph) (H : Hp) (W : XK) (Q : Bool → Hp → Prop) : RM Bool → Prop := RsP K φ H W fun b μ => ∀ φ' H', Grow φ φ' H H' → Cells K φ' H' μ → Q b H'
def AP' (K : PySem.W.Frag) (φ : Ph) (H : Hp) (W : XK) (Q : List V → Hp → Prop) : RM (List Vw) → Prop := RsP K φ H W fun ws μ => ∀ φ' vs H', Grow φ φ' H H' → Cells K φ' H' μ → RVs K φ' H' ws vs → Q vs H'
def S1P (K : PySem.W.Frag) (φ : Ph) (H : Hp) (D : Ends) : S1 → Mu → Prop
  | .nx ρ, μ => ∀ φ' σ' H', Grow φ φ' H H' → RS K φ' σ' H' ρ μ → D.nx σ' H'
  | .rt w, μ => Post K φ H μ w D.rt
  | .bk ρ, μ => ∀ φ' σ' H', Grow φ φ' H H' → RS K φ' σ' H' ρ μ → D.bk σ' H'
  | .ct ρ, μ => ∀ φ' σ' H', Grow φ φ' H H' → RS K φ' σ' H' ρ μ → D.ct σ' H'
def SP' (K : PySem.W.Frag) (φ : Ph) (H : Hp) (W : XK) (D : Ends) : RM S1 → Prop := RsP K φ H W (S1P K φ H D)
theorem VP.grow {Q : VK} {m : RM Vw} (g : Grow φ φ' H H') (h : VP K φ H W Q m) : VP K φ' H' W Q m := RsP.grow g h fun w μ p φ2 v2 H2 g2 c2 r2 => p φ2 v2 H2 (g.trans g2) c2 r2
theorem BP.grow {Q : Bool → Hp → Prop} {m : RM Bool} (g : Grow φ φ' H H') (h : BP K φ H W Q m) : BP K φ' H' W Q m := RsP.grow g h fun w μ p φ2 H2 g2 c2 => p φ2 H2 (g.trans g2) c2
theorem AP'.grow {Q : List V → Hp → Prop} {m : RM (List Vw)} (g : Grow φ φ' H H') (h : AP' K φ H W Q m) : AP' K φ' H' W Q m := RsP.grow g h fun w μ p φ2 v2 H2 g2 c2 r2 => p φ2 v2 H2 (g.trans g2) c2 r2
theorem S1P.grow {D : Ends} {a : S1} {μ : Mu} (g : Grow φ φ' H H') (p : S1P K φ H D a μ) : S1P K φ' H' D a μ := by
  cases a with
  | nx ρ => exact fun φ2 σ2 H2 g2 r2 => p φ2 σ2 H2 (g.trans g2) r2
  | rt w => exact fun φ2 v2 H2 g2 c2 r2 => p φ2 v2 H2 (g.trans g2) c2 r2
  | bk ρ => exact fun φ2 σ2 H2 g2 r2 => p φ2 σ2 H2 (g.trans g2) r2
  | ct ρ => exact fun φ2 σ2 H2 g2 r2 => p φ2 σ2 H2 (g.trans g2) r2
theorem SP'.grow {D : Ends} {m : RM S1} (g : Grow φ φ' H H') (h : SP' K φ H W D m) : SP' K φ' H' W D m := RsP.grow g h fun a μ p => S1P.grow g p
end
/-! ### judgements; W: what is wished of an exception -/
def tX (K : PySem.W.Frag) (W : WX) (f : EX) : TE := fun σ H Q => ∃ φ ρ μ, RS K φ σ H ρ μ ∧ VP K φ H (WE W σ) Q (f ρ μ)
def tXB (K : PySem.W.Frag) (W : WX) (f : BX) : TT := fun σ H Q => ∃ φ ρ μ, RS K φ σ H ρ μ ∧ BP K φ H (WE W σ) Q (f ρ μ)
def tXA (K : PySem.W.Frag) (W : WX) (f : AX) : TA := fun σ H Q => ∃ φ ρ μ, RS K φ σ H ρ μ ∧ AP' K φ H (WE W σ) Q (f ρ μ)
def tXS (K : PySem.W.Frag) (W : WX) (g : SX) : TS := fun D σ H => ∃ φ ρ μ, RS K φ σ H ρ μ ∧ SP' K φ H (WE W σ) D (g ρ μ)
abbrev wF : WX := fun _ _ _ _ => False
abbrev wf (E : XK) : WX := fun cls d _ H => E cls d H
theorem takesF {X : Cx} : Takes X wF := LamX.takes0
/-! from, to mirrors that do not raise -/
def up {α : Type} (f : Rho → Mu → Option (α × Mu)) : Rho → Mu → RM α := fun ρ μ => match f ρ μ with
  | some (a, μ1) => some (.ok a μ1)
  | none => none
def dn {α : Type} (f : Rho → Mu → RM α) : Rho → Mu → Option (α × Mu) := fun ρ μ => match f ρ μ with
  | some (.ok a μ1) => some (a, μ1)
  | _ => none
theorem up_some {α : Type} {f : Rho → Mu → Option (α × Mu)} {ρ : Rho} {μ : Mu} {a : α} {μ1 : Mu} (h : up f ρ μ = some (.ok a μ1)) : f ρ μ = some (a, μ1) := by
  unfold up at h
  split at h
  · rename_i e; cases h; exact e
  · cases h
theorem dn_some {α : Type} {f : Rho → Mu → RM α} {ρ : Rho} {μ : Mu} {r : α × Mu} (h : dn f ρ μ = some r) : f ρ μ = some (.ok r.1 r.2) := by
  unfold dn at h
  split at h
  · rename_i e; cases h; exact e
  · cases h
theorem up_P {α : Type} {K : PySem.W.Frag} {φ : Ph} {H : Hp} {W : XK} {P : α → Mu → Prop} {f : Rho → Mu → Option (α × Mu)} {ρ : Rho} {μ : Mu} (h : RsP K φ H W P (up f ρ μ)) : ∃ a μ1, f ρ μ = some (a, μ1) ∧ P a μ1 := by
  unfold up at h
  split at h
  · rename_i a μ1 e; exact ⟨a, μ1, e, h⟩
  · exact h.elim
section
variable {X : Cx} {W : WX} {a b c : Expr} {pos : Pos}
theorem upE {f : EF} (h : PE X a (tE X.K f)) : PE X a (tX X.K W (up f)) := PE.to h fun σ H Q ⟨φ, ρ, μ, rs, k⟩ => by
  obtain ⟨w, μ1, e, p⟩ := up_P k
  exact ⟨φ, ρ, μ, w, μ1, rs, e, p⟩
theorem upT {f : BF} (h : PT X a (tT X.K f)) : PT X a (tXB X.K W (up f)) := PT.to h fun σ H Q ⟨φ, ρ, μ, rs, k⟩ => by
  obtain ⟨w, μ1, e, p⟩ := up_P k
  exact ⟨φ, ρ, μ, w, μ1, rs, e, p⟩
theorem dnE {f : EX} (h : PE X a (tX X.K W f)) : PE X a (tE X.K (dn f)) := PE.to h fun σ H Q ⟨φ, ρ, μ, w, μ1, rs, e, p⟩ => by
  refine ⟨φ, ρ, μ, rs, ?_⟩
  rw [dn_some e]
  exact p
theorem dnT {f : BX} (h : PT X a (tXB X.K W f)) : PT X a (tT X.K (dn f)) := PT.to h fun σ H Q ⟨φ, ρ, μ, w, μ1, rs, e, p⟩ => by
  refine ⟨φ, ρ, μ, rs, ?_⟩
  rw [dn_some e]
  exact p
theorem dnA {es : List Expr} {f : AX} (h : PA X es (tXA X.K W f)) : PA X es (tA X.K (dn f)) := PA.to h fun σ H Q ⟨φ, ρ, μ, w, μ1, rs, e, p⟩ => by
  refine ⟨φ, ρ, μ, rs, ?_⟩
  rw [dn_some e]
  exact p
/-! ### values -/
@[simp] def xV (i : Nat) (ρ : Rho) (μ : Mu) : RM Vw := match ρ[i]? with
  | some (some w) => some (.ok w μ)
  | _ => none
@[simp] def xC (p : PyData) (_ : Rho) (μ : Mu) : RM Vw := some (.ok (.d p) μ)
theorem xV_up (i : Nat) : xV i = up (eV i) := by
  funext ρ μ
  unfold xV up eV
  cases ρ[i]? with
  | none => rfl
  | some w => cases w <;> rfl
theorem xC_up (p : PyData) : xC p = up (eC p) := rfl
theorem yj_var (i : Nat) {x : Str} (hN : X.N[i]? = some x := by rfl) (hv : Vis X.env.scope x := by first | exact Or.inl rfl | exact Or.inr (Or.inl rfl) | exact Or.inr (Or.inr rfl)) (hd : (x == ("__debug__" : Str)) = false := by decide)
    (hcd : (x == ("__classdict__" : Str)) = false := by decide) : PE X (.Name x pos) (tX X.K W (xV i)) := by
  rw [xV_up]; exact upE (ej_var i hN hv hd hcd)
theorem yj_c {p : PyData} (h : PE X a (tE X.K (eC p))) : PE X a (tX X.K W (xC p)) := upE h
@[simp] def xB1 (o : Mu → Vw → Option Vw) (f : EX) (ρ : Rho) (μ : Mu) : RM Vw := bd (f ρ μ) fun x μ1 => lf (o μ1 x) μ1
@[simp] def xB2 (o : Mu → Vw → Vw → Option Vw) (f g : EX) (ρ : Rho) (μ : Mu) : RM Vw := bd (f ρ μ) fun x μ1 => bd (g ρ μ1) fun y μ2 => lf (o μ2 x y) μ2
theorem tX_2 {K : PySem.W.Frag} {r : R2} {o : Mu → Vw → Vw → Option Vw} {f g : EX} (h : O2 K r o) : ∀ σ H Q, tX K W (xB2 o f g) σ H Q → tOp r (tX K W f) (tX K W g) σ H Q := fun σ H Q ⟨φ, ρ, μ, rs, k⟩ => by
  refine ⟨φ, ρ, μ, rs, RsP.bd k fun x μ1 _ k1 φ1 u H1 g1 c1 r1 => ?_⟩
  refine ⟨φ1, ρ, μ1, rs.step g1.w c1, RsP.bd (VP.grow g1 k1) fun y μ2 _ k2 φ2 v H2 g2 c2 r2 => ?_⟩
  obtain ⟨w, e, p⟩ := RsP.lf k2
  exact h φ2 H2 μ2 x y w u v Q c2 (RV.step g2.w _ _ r1) r2 e fun φ3 v3 H3 g3 c3 r3 => p φ3 v3 H3 (g2.trans g3) c3 r3
theorem tX_1 {K : PySem.W.Frag} {r : V → Hp → VK → Prop} {o : Mu → Vw → Option Vw} {f : EX} (h : O1 K r o) : ∀ σ H Q, tX K W (xB1 o f) σ H Q → tUn r (tX K W f) σ H Q := fun σ H Q ⟨φ, ρ, μ, rs, k⟩ => by
  refine ⟨φ, ρ, μ, rs, RsP.bd k fun x μ1 _ k1 φ1 u H1 g1 c1 r1 => ?_⟩
  obtain ⟨w, e, p⟩ := RsP.lf k1
  exact h φ1 H1 μ1 x w u Q c1 r1 e fun φ3 v3 H3 g3 c3 r3 => p φ3 v3 H3 (g1.trans g3) c3 r3
theorem yj_op {op : Operator} {r : R2} {o : Mu → Vw → Vw → Option Vw} {f g : EX} (ho : OpR X (binaryOp op) r) (h : O2 X.K r o) (ha : PE X a (tX X.K W f)) (hb : PE X b (tX X.K W g)) : PE X (.BinOp a op b pos) (tX X.K W (xB2 o f g)) := PE.to (pe_op ho ha hb) (tX_2 h)
theorem yj_cmp {op : CmpOp} {r : R2} {o : Mu → Vw → Vw → Option Vw} {f g : EX} (ho : OpR X (compareOp op) r) (h : O2 X.K r o) (ha : PE X a (tX X.K W f)) (hb : PE X b (tX X.K W g)) (hm : behindInMarks op b = false := by first | exact nomark _ | rfl) : PE X (.Compare a [op] [b] pos) (tX X.K W (xB2 o f g)) := PE.to (pe_cmpR ho ha hb hm) (tX_2 h)
theorem yj_ix {r : R2} {o : Mu → Vw → Vw → Option Vw} {f g : EX} (ho : IxR X r) (h : O2 X.K r o) (ha : PE X a (tX X.K W f)) (hb : PE X b (tX X.K W g)) (hs : PlainIx b := by exact fun _ _ => rfl) : PE X (.Subscript a b pos) (tX X.K W (xB2 o f g)) := PE.to (pe_ix ho ha hb hs) (tX_2 h)
theorem yj_un {op : UnaryOp} {r : V → Hp → VK → Prop} {o : Mu → Vw → Option Vw} {f : EX} (ho : UnR X (unaryOp op) r) (h : O1 X.K r o) (ha : PE X a (tX X.K W f)) : PE X (.UnaryOp op a pos) (tX X.K W (xB1 o f)) := PE.to (pe_un ho ha) (tX_1 h)
theorem yj_item {f g : EX} (ha : PE X a (tX X.K W f)) (hb : PE X b (tX X.K W g)) (hs : PlainIx b := by exact fun _ _ => rfl) : PE X (.Subscript a b pos) (tX X.K W (xB2 oIx f g)) := yj_ix ix_V oIx_ok ha hb hs
theorem yj_add {f g : EX} (ha : PE X a (tX X.K W f)) (hb : PE X b (tX X.K W g)) : PE X (.BinOp a .Add b pos) (tX X.K W (xB2 oAdd f g)) := yj_op op_addV oAdd_ok ha hb
theorem yj_sub {f g : EX} (ha : PE X a (tX X.K W f)) (hb : PE X b (tX X.K W g)) : PE X (.BinOp a .Sub b pos) (tX X.K W (xB2 oSub f g)) := yj_op op_sub (iiO_ok0 fun _ _ _ _ => rfl) ha hb
theorem yj_mul {f g : EX} (ha : PE X a (tX X.K W f)) (hb : PE X b (tX X.K W g)) : PE X (.BinOp a .Mult b pos) (tX X.K W (xB2 oMul f g)) := yj_op op_mulV (iiO_ok (fun i j h => mulOk_C h) fun _ _ _ _ => rfl) ha hb
theorem yj_div {f g : EX} (ha : PE X a (tX X.K W f)) (hb : PE X b (tX X.K W g)) : PE X (.BinOp a .FloorDiv b pos) (tX X.K W (xB2 oDiv f g)) := yj_op op_fdivZ (iiO_ok (fun i j h => show j ≠ 0 ∧ j.natAbs.log2 < 9000 from of_decide_eq_true h) fun _ _ _ _ => rfl) ha hb
theorem yj_mod {f g : EX} (ha : PE X a (tX X.K W f)) (hb : PE X b (tX X.K W g)) : PE X (.BinOp a .Mod b pos) (tX X.K W (xB2 oMod f g)) := yj_op op_modN (iiO_ok (fun _ _ h => of_decide_eq_true h) fun _ _ _ _ => rfl) ha hb
theorem yj_pow {f g : EX} (ha : PE X a (tX X.K W f)) (hb : PE X b (tX X.K W g)) : PE X (.BinOp a .Pow b pos) (tX X.K W (xB2 oPow f g)) := yj_op op_pow (iiO_ok (fun i j h => show 0 ≤ j ∧ j ≤ 1000000 ∧ i.natAbs < 2 ^ 64 from of_decide_eq_true h) fun _ _ _ _ => rfl) ha hb
theorem yj_rep {f g : EX} (ha : PE X a (tX X.K W f)) (hb : PE X b (tX X.K W g)) : PE X (.BinOp a .Mult b pos) (tX X.K W (xB2 oRep f g)) := yj_op (OpR.or op_repT op_rep) oRep_ok ha hb
theorem yj_neg {f : EX} (ha : PE X a (tX X.K W f)) : PE X (.UnaryOp .USub a pos) (tX X.K W (xB1 oNeg f)) := yj_un un_neg oNeg_ok ha
/-! chains a op b op' c -/
@[simp] def xChain (o o' : Mu → Vw → Vw → Option Vw) (f g h : EX) (ρ : Rho) (μ : Mu) : RM Vw := bd (f ρ μ) fun x μ1 => bd (g ρ μ1) fun y μ2 => match o μ2 x y with
  | some (.d (.bool true)) => bd (h ρ μ2) fun z μ3 => lf (o' μ3 y z) μ3
  | some (.d (.bool false)) => some (.ok (.d (.bool false)) μ2)
  | _ => none
theorem tX_chain {K : PySem.W.Frag} {r r' : R2} {o o' : Mu → Vw → Vw → Option Vw} {f g h : EX} (ho : O2 K r o) (ho' : O2 K r' o') : ∀ σ H Q, tX K W (xChain o o' f g h) σ H Q → tChain r r' (tX K W f) (tX K W g) (tX K W h) σ H Q := fun σ H Q ⟨φ, ρ, μ, rs, k⟩ => by
  refine ⟨φ, ρ, μ, rs, RsP.bd k fun x μ1 _ k1 φ1 u H1 g1 c1 r1 => ?_⟩
  have rs1 := rs.step g1.w c1
  refine ⟨φ1, ρ, μ1, rs1, RsP.bd (VP.grow g1 k1) fun y μ2 _ k2 φ2 v H2 g2 c2 r2 => ?_⟩
  have k3 := VP.grow g2 k2
  split at k3
  · rename_i e3
    refine ho φ2 H2 μ2 x y _ u v _ c2 (RV.step g2.w _ _ r1) r2 e3 fun φ3 v3 H3 g3 c3 r3 => ⟨true, r3, ?_⟩
    refine L2.iteT ?_
    have rs3 := (rs1.step g2.w c2).step g3.w c3
    refine ⟨φ3, ρ, μ2, rs3, RsP.bd (VP.grow g3 k3) fun z μ3 _ k4 φ4 v4 H4 g4 c4 r4 => ?_⟩
    obtain ⟨w, e, p⟩ := RsP.lf k4
    exact ho' φ4 H4 _ y z w v v4 Q c4 (RV.step (g3.trans g4).w _ _ r2) r4 e fun φ5 v5 H5 g5 c5 r5 => p φ5 v5 H5 (g4.trans g5) c5 r5
  · rename_i e3
    refine ho φ2 H2 _ x y (.d (.bool false)) u v _ c2 (RV.step g2.w _ _ r1) r2 e3 fun φ3 v3 H3 g3 c3 r3 => ⟨false, r3, ?_⟩
    refine L2.iteF ?_
    exact k3 φ3 _ H3 g3 c3 rfl
  · exact k3.elim
theorem yj_chain {op op' : CmpOp} {r r' : R2} {o o' : Mu → Vw → Vw → Option Vw} {f g h : EX} (ho : OpR X (compareOp op) r) (h1 : O2 X.K r o) (ho' : OpR X (compareOp op') r') (h1' : O2 X.K r' o') (ha : PE X a (tX X.K W f)) (hb : PE X b (tX X.K W g)) (hc : PE X c (tX X.K W h))
    (hm : lastMarks [op, op'] [b, c] = false := by with_unfolding_all rfl) : PE X (.Compare a [op, op'] [b, c] pos) (tX X.K W (xChain o o' f g h)) := PE.to (pe_chain ho ho' ha hb hc hm) (tX_chain h1 h1')
/-! ### tests -/
@[simp] def zE (f : EX) (ρ : Rho) (μ : Mu) : RM Bool := bd (f ρ μ) fun w μ1 => match w with
  | .d (.bool b) => some (.ok b μ1)
  | _ => none
@[simp] def zTru (f : EX) (ρ : Rho) (μ : Mu) : RM Bool := bd (f ρ μ) fun w μ1 => lf (tru μ1 w) μ1
@[simp] def zAnd (f g : BX) (ρ : Rho) (μ : Mu) : RM Bool := bd (f ρ μ) fun b μ1 => bif b then g ρ μ1 else some (.ok false μ1)
@[simp] def zOr (f g : BX) (ρ : Rho) (μ : Mu) : RM Bool := bd (f ρ μ) fun b μ1 => bif b then some (.ok true μ1) else g ρ μ1
@[simp] def zNot (f : BX) (ρ : Rho) (μ : Mu) : RM Bool := bd (f ρ μ) fun b μ1 => some (.ok (!b) μ1)
theorem tXB_E {K : PySem.W.Frag} {f : EX} : ∀ σ H Q, tXB K W (zE f) σ H Q → tB (tX K W f) σ H Q := fun σ H Q ⟨φ, ρ, μ, rs, k⟩ => by
  refine ⟨φ, ρ, μ, rs, RsP.bd k fun w μ1 _ k1 φ1 u H1 g1 c1 r1 => ?_⟩
  split at k1
  · exact ⟨_, r1, k1 φ1 H1 g1 c1⟩
  · exact k1.elim
theorem zj_cmp {op : CmpOp} {r : R2} {o : Mu → Vw → Vw → Option Vw} {f g : EX} (ho : OpR X (compareOp op) r) (h : O2 X.K r o) (ha : PE X a (tX X.K W f)) (hb : PE X b (tX X.K W g)) (hm : behindInMarks op b = false := by first | exact nomark _ | rfl) : PT X (.Compare a [op] [b] pos) (tXB X.K W (zE (xB2 o f g))) :=
  PT.to (pt_cmpR ho ha hb hm) fun σ H Q q => tX_2 h σ H _ (tXB_E σ H Q q)
theorem zj_chain {op op' : CmpOp} {r r' : R2} {o o' : Mu → Vw → Vw → Option Vw} {f g h : EX} (ho : OpR X (compareOp op) r) (h1 : O2 X.K r o) (ho' : OpR X (compareOp op') r') (h1' : O2 X.K r' o') (ha : PE X a (tX X.K W f)) (hb : PE X b (tX X.K W g)) (hc : PE X c (tX X.K W h))
    (hm : lastMarks [op, op'] [b, c] = false := by with_unfolding_all rfl) : PT X (.Compare a [op, op'] [b, c] pos) (tXB X.K W (zE (xChain o o' f g h))) := PT.to (pt_chain ho ho' ha hb hc hm) fun σ H Q q => tX_chain h1 h1' σ H _ (tXB_E σ H Q q)
theorem zj_not {f : BX} (h : PT X a (tXB X.K W f)) : PT X (.UnaryOp .Not a pos) (tXB X.K W (zNot f)) := PT.to (pt_not h) fun σ H Q ⟨φ, ρ, μ, rs, k⟩ => ⟨φ, ρ, μ, rs, RsP.bd k fun b μ1 _ k1 => k1⟩
theorem zj_tru {f : EX} (ha : PE X a (tX X.K W f)) (he : ∀ whole, isTrue a X.env whole = (do let v ← whole; standAt a.pos; holding [v] (truthy v)) := by intro _; rfl) : PT X a (tXB X.K W (zTru f)) := PT.to (pt_truth ha he) fun σ H Q ⟨φ, ρ, μ, rs, k⟩ => by
  refine ⟨φ, ρ, μ, rs, RsP.bd k fun w μ1 _ k1 φ1 v H1 g1 c1 r1 => ?_⟩
  obtain ⟨b, e, p⟩ := RsP.lf k1
  exact ⟨b, tru_V c1 r1 e, p φ1 H1 g1 c1⟩
theorem wz_1 {op} {f : BX} (h : PT X a (tXB X.K W f)) (hop : op = .And ∨ op = .Or) : PW X (.BoolOp op [a] pos) (tXB X.K W f) := by
  rcases hop with rfl | rfl
  · exact pw_and1 h
  · exact pw_or1 h
theorem wz_and {rest : List Expr} {f g : BX} (ha : PT X a (tXB X.K W f)) (hb : PW X (.BoolOp .And (b :: rest) pos) (tXB X.K W g)) : PW X (.BoolOp .And (a :: b :: rest) pos) (tXB X.K W (zAnd f g)) := PW.to (pw_and ha hb) fun σ H Q ⟨φ, ρ, μ, rs, k⟩ => by
  refine ⟨φ, ρ, μ, rs, RsP.bd k fun d μ1 _ k1 φ1 H1 g1 c1 => ?_⟩
  cases d with
  | true => exact L2.iteT ⟨φ1, ρ, μ1, rs.step g1.w c1, BP.grow g1 k1⟩
  | false => exact L2.iteF (k1 φ1 H1 g1 c1)
theorem wz_or {rest : List Expr} {f g : BX} (ha : PT X a (tXB X.K W f)) (hb : PW X (.BoolOp .Or (b :: rest) pos) (tXB X.K W g)) : PW X (.BoolOp .Or (a :: b :: rest) pos) (tXB X.K W (zOr f g)) := PW.to (pw_or ha hb) fun σ H Q ⟨φ, ρ, μ, rs, k⟩ => by
  refine ⟨φ, ρ, μ, rs, RsP.bd k fun d μ1 _ k1 φ1 H1 g1 c1 => ?_⟩
  cases d with
  | true => exact L2.iteT (k1 φ1 H1 g1 c1)
  | false => exact L2.iteF ⟨φ1, ρ, μ1, rs.step g1.w c1, BP.grow g1 k1⟩
theorem zj_w {f : BX} (h : PW X a (tXB X.K W f)) : PT X a (tXB X.K W f) := h.pt
/-! and, or, not as values of bools; if -/
@[simp] def xAnd (f g : EX) (ρ : Rho) (μ : Mu) : RM Vw := bd (f ρ μ) fun w μ1 => match w with
  | .d (.bool true) => g ρ μ1
  | .d (.bool false) => some (.ok (.d (.bool false)) μ1)
  | _ => none
@[simp] def xOr (f g : EX) (ρ : Rho) (μ : Mu) : RM Vw := bd (f ρ μ) fun w μ1 => match w with
  | .d (.bool false) => g ρ μ1
  | .d (.bool true) => some (.ok (.d (.bool true)) μ1)
  | _ => none
@[simp] def xNotT (f : EX) (ρ : Rho) (μ : Mu) : RM Vw := bd (f ρ μ) fun w μ1 => lf ((tru μ1 w).map fun b => .d (.bool (!b))) μ1
@[simp] def xIf (t : BX) (f g : EX) (ρ : Rho) (μ : Mu) : RM Vw := bd (t ρ μ) fun b μ1 => bif b then f ρ μ1 else g ρ μ1
theorem yj_one {op} {f : EX} (h : PE X a (tX X.K W f)) : PE X (.BoolOp op [a] pos) (tX X.K W f) := pe_one h
theorem yj_and {rest : List Expr} {f g : EX} (ha : PE X a (tX X.K W f)) (hb : PE X (.BoolOp .And (b :: rest) pos) (tX X.K W g)) : PE X (.BoolOp .And (a :: b :: rest) pos) (tX X.K W (xAnd f g)) := PE.to (pe_and ha hb) fun σ H Q ⟨φ, ρ, μ, rs, k⟩ => by
  refine ⟨φ, ρ, μ, rs, RsP.bd k fun w μ1 _ k1 φ1 v H1 g1 c1 r1 => ?_⟩
  split at k1
  · exact ⟨true, r1, L2.iteT ⟨φ1, ρ, μ1, rs.step g1.w c1, VP.grow g1 k1⟩⟩
  · exact ⟨false, r1, L2.iteF (k1 φ1 _ H1 g1 c1 rfl)⟩
  · exact k1.elim
theorem yj_or {rest : List Expr} {f g : EX} (ha : PE X a (tX X.K W f)) (hb : PE X (.BoolOp .Or (b :: rest) pos) (tX X.K W g)) : PE X (.BoolOp .Or (a :: b :: rest) pos) (tX X.K W (xOr f g)) := PE.to (pe_or ha hb) fun σ H Q ⟨φ, ρ, μ, rs, k⟩ => by
  refine ⟨φ, ρ, μ, rs, RsP.bd k fun w μ1 _ k1 φ1 v H1 g1 c1 r1 => ?_⟩
  split at k1
  · exact ⟨false, r1, L2.iteF ⟨φ1, ρ, μ1, rs.step g1.w c1, VP.grow g1 k1⟩⟩
  · exact ⟨true, r1, L2.iteT (k1 φ1 _ H1 g1 c1 rfl)⟩
  · exact k1.elim
theorem yj_notT {f : EX} (ha : PE X a (tX X.K W f)) : PE X (.UnaryOp .Not a pos) (tX X.K W (xNotT f)) := PE.to (pe_notT ha) fun σ H Q ⟨φ, ρ, μ, rs, k⟩ => by
  refine ⟨φ, ρ, μ, rs, RsP.bd k fun w μ1 _ k1 φ1 v H1 g1 c1 r1 => ?_⟩
  obtain ⟨z, e, p⟩ := RsP.lf k1
  obtain ⟨b, e1, e2⟩ := Option.map_eq_some_iff.mp e
  subst e2
  exact ⟨b, tru_V c1 r1 e1, p φ1 _ H1 g1 c1 rfl⟩
theorem yj_if {t : BX} {f g : EX} (hc : PT X c (tXB X.K W t)) (ha : PE X a (tX X.K W f)) (hb : PE X b (tX X.K W g)) : PE X (.IfExp c a b pos) (tX X.K W (xIf t f g)) := PE.to (pe_ifExp hc ha hb) fun σ H Q ⟨φ, ρ, μ, rs, k⟩ => by
  refine ⟨φ, ρ, μ, rs, RsP.bd k fun d μ1 _ k1 φ1 H1 g1 c1 => ?_⟩
  cases d with
  | true => exact L2.iteT ⟨φ1, ρ, μ1, rs.step g1.w c1, VP.grow g1 k1⟩
  | false => exact L2.iteF ⟨φ1, ρ, μ1, rs.step g1.w c1, VP.grow g1 k1⟩
/-! ### arguments, tuples, lists -/
@[simp] def xNil (_ : Rho) (μ : Mu) : RM (List Vw) := some (.ok [] μ)
@[simp] def xCons (f : EX) (g : AX) (ρ : Rho) (μ : Mu) : RM (List Vw) := bd (f ρ μ) fun x μ1 => bd (g ρ μ1) fun r μ2 => some (.ok (x :: r) μ2)
theorem yaj_nil : PA X [] (tXA X.K W xNil) := PA.to pa_nil fun σ H Q ⟨φ, ρ, μ, rs, k⟩ => k φ [] H (.refl _ _) rs.c rfl
theorem yaj_cons {es : List Expr} {f : EX} {g : AX} (ha : PE X a (tX X.K W f)) (hr : PA X es (tXA X.K W g)) (hs : starEach (a :: es) X.env = (false, eval a X.env) :: starEach es X.env := by rfl) : PA X (a :: es) (tXA X.K W (xCons f g)) := PA.to (pa_cons ha hr hs) fun σ H Q ⟨φ, ρ, μ, rs, k⟩ => by
  refine ⟨φ, ρ, μ, rs, RsP.bd k fun x μ1 _ k1 φ1 u H1 g1 c1 r1 => ?_⟩
  refine ⟨φ1, ρ, μ1, rs.step g1.w c1, RsP.bd (AP'.grow g1 k1) fun ys μ2 _ k2 φ2 vs H2 g2 c2 r2 => ?_⟩
  exact k2 φ2 _ H2 g2 c2 ⟨u, vs, rfl, RV.step g2.w _ _ r1, r2⟩
@[simp] def xTup (f : AX) (ρ : Rho) (μ : Mu) : RM Vw := bd (f ρ μ) fun ws μ1 => match allD ws with
  | some ps => if ps.length ≤ 1000000 then some (.ok (.d (.tuple ps)) μ1) else none
  | none => none
@[simp] def xLst (f : AX) (ρ : Rho) (μ : Mu) : RM Vw := bd (f ρ μ) fun ws μ1 => match allD ws with
  | some ps => if ps.length ≤ 1000000 then some (.ok (.d (.list ps)) μ1) else none
  | none => none
@[simp] def xLstC (f : AX) (ρ : Rho) (μ : Mu) : RM Vw := bd (f ρ μ) fun ws μ1 => match allD ws with
  | some ps => if ps.length ≤ 1000000 then some (.ok (.loc μ1.length) (μ1 ++ [ps])) else none
  | none => none
theorem yj_tup {es : List Expr} {x1} {f : AX} (h : PA X es (tXA X.K W f)) : PE X (.Tuple es x1 pos) (tX X.K W (xTup f)) := PE.to (pe_tup h) fun σ H Q ⟨φ, ρ, μ, rs, k⟩ => by
  refine ⟨φ, ρ, μ, rs, RsP.bd k fun ws μ1 _ k1 φ1 vs H1 g1 c1 r1 => ?_⟩
  split at k1
  · rename_i ps e2
    split at k1
    · rename_i hl
      have hd := allD_da e2 r1
      exact ⟨by rw [← hd.len]; exact size_ok hl, new_tup c1 hd fun φ2 v2 H2 g2 c2 r2 => k1 φ2 v2 H2 (g1.trans g2) c2 r2⟩
    · exact k1.elim
  · exact k1.elim
theorem yj_lst {es : List Expr} {f : AX} (h : PA X es (tXA X.K W f)) : PE X (.List es pos) (tX X.K W (xLst f)) := PE.to (pe_lst h) fun σ H Q ⟨φ, ρ, μ, rs, k⟩ => by
  refine ⟨φ, ρ, μ, rs, RsP.bd k fun ws μ1 _ k1 φ1 vs H1 g1 c1 r1 => ?_⟩
  split at k1
  · rename_i ps e2
    split at k1
    · rename_i hl
      have hd := allD_da e2 r1
      exact ⟨by rw [← hd.len]; exact size_ok hl, new_lst c1 hd fun φ2 v2 H2 g2 c2 r2 => k1 φ2 v2 H2 (g1.trans g2) c2 r2⟩
    · exact k1.elim
  · exact k1.elim
theorem yj_lstC {es : List Expr} {f : AX} (h : PA X es (tXA X.K W f)) : PE X (.List es pos) (tX X.K W (xLstC f)) := PE.to (pe_lst h) fun σ H Q ⟨φ, ρ, μ, rs, k⟩ => by
  refine ⟨φ, ρ, μ, rs, RsP.bd k fun ws μ1 _ k1 φ1 vs H1 g1 c1 r1 => ?_⟩
  split at k1
  · rename_i ps e2
    split at k1
    · rename_i hl
      have hd := allD_da e2 r1
      exact ⟨by rw [← hd.len]; exact size_ok hl, new_cell c1 hd fun φ2 v2 H2 g2 c2 r2 => k1 φ2 v2 H2 (g1.trans g2) c2 r2⟩
    · exact k1.elim
  · exact k1.elim
/-! ### built-in functions -/
@[simp] def xBi (o : Mu → List Vw → Option Vw) (fa : AX) (ρ : Rho) (μ : Mu) : RM Vw := bd (fa ρ μ) fun ws μ1 => lf (o μ1 ws) μ1
theorem tX_bi {K : PySem.W.Frag} {r : List V → Hp → VK → Prop} {o : Mu → List Vw → Option Vw} {fa : AX} (h : OL K r o) : ∀ σ H Q, tX K W (xBi o fa) σ H Q → tCB r (tXA K W fa) σ H Q := fun σ H Q ⟨φ, ρ, μ, rs, k⟩ => by
  refine ⟨φ, ρ, μ, rs, RsP.bd k fun ws μ1 _ k1 φ1 vs H1 g1 c1 r1 => ?_⟩
  obtain ⟨w, e, p⟩ := RsP.lf k1
  exact h φ1 H1 _ ws w vs Q c1 r1 e fun φ2 v2 H2 g2 c2 r2 => p φ2 v2 H2 (g1.trans g2) c2 r2
variable {x : Str} {e : Expr} {es : List Expr} {fa : AX} {p : Pos}
theorem yj_bi {id : String} {r : List V → Hp → VK → Prop} {o : Mu → List Vw → Option Vw} (hc : CallR X (.builtin id) r) (h : OL X.K r o) (hm : X.mg x = none) (ha : PA X (e :: es) (tXA X.K W fa)) (hv : bootBuiltins x = some (.builtin id)) (hg : Gl X x := by rfl) (hn : x ≠ "__name__" := by decide) (hdb : (x == ("__debug__" : Str)) = false := by decide)
    (he : starEach (e :: es) X.env = (false, eval e X.env) :: starEach es X.env := by rfl) (hpl : (backTo pos (starEach es X.env)).any (·.1) = false := by rfl) : PE X (.Call (.Name x p) (e :: es) [] pos) (tX X.K W (xBi o fa)) := PE.to (pe_callB hc hg hm hv ha hn hdb he hpl) (tX_bi h)
theorem yj_bif {id : String} {r : List V → Hp → VK → Prop} {o : Mu → List Vw → Option Vw} (hc : CallR X (.builtin id) r) (h : OL X.K r o) (hm : X.mg x = some (.builtin id)) (ha : PA X (e :: es) (tXA X.K W fa)) (hg : Gl X x := by rfl) (hdb : (x == ("__debug__" : Str)) = false := by decide)
    (he : starEach (e :: es) X.env = (false, eval e X.env) :: starEach es X.env := by rfl) (hpl : (backTo pos (starEach es X.env)).any (·.1) = false := by rfl) : PE X (.Call (.Name x p) (e :: es) [] pos) (tX X.K W (xBi o fa)) := PE.to (pe_callBfun hc hg hm ha hdb he hpl) (tX_bi h)
theorem yj_ty {T : String} {r : List V → Hp → VK → Prop} {o : Mu → List Vw → Option Vw} (hc : CallR X (.type T) r) (h : OL X.K r o) (hm : X.mg x = none) (ha : PA X (e :: es) (tXA X.K W fa)) (hv : bootBuiltins x = some (.type T)) (hg : Gl X x := by rfl) (hn : x ≠ "__name__" := by decide) (hdb : (x == ("__debug__" : Str)) = false := by decide)
    (he : starEach (e :: es) X.env = (false, eval e X.env) :: starEach es X.env := by rfl) (hpl : (backTo pos (starEach es X.env)).any (·.1) = false := by rfl) : PE X (.Call (.Name x p) (e :: es) [] pos) (tX X.K W (xBi o fa)) := PE.to (pe_callTy hc hg hm hv ha hn hdb he hpl) (tX_bi h)
/-! isinstance -/
@[simp] def xIsi (T : String) (f : EX) (ρ : Rho) (μ : Mu) : RM Vw := bd (f ρ μ) fun w μ1 => if isRg w = true then none else some (.ok (.d (.bool (isaB (tyN w) T))) μ1)
theorem yj_isi (T : String) {f : EX} {p2 : Pos} (hk : ∀ a ∈ tyNs, kitB a T = some (isaB a T)) (hm : X.mg "isinstance" = none) (hm2 : X.mg x = none) (he : PE X e (tX X.K W f)) (hv2 : bootBuiltins x = some (.type T)) (hg : Gl X "isinstance" := by rfl) (hg2 : Gl X x := by rfl)
    (hn2 : x ≠ "__name__" := by decide) (hd2 : (x == ("__debug__" : Str)) = false := by decide) (hs1 : starEach [e, .Name x p2] X.env = (false, eval e X.env) :: starEach [.Name x p2] X.env := by rfl) (hs2 : starEach [.Name x p2] X.env = (false, eval (.Name x p2) X.env) :: starEach [] X.env := by rfl)
    (hpl : (backTo pos (starEach [.Name x p2] X.env)).any (·.1) = false := by rfl) : PE X (.Call (.Name "isinstance" p) [e, .Name x p2] [] pos) (tX X.K W (xIsi T f)) :=
  PE.to (pe_callB call_isi hg hm (by decide +kernel) (pa_cons he (pa_cons (pe_bltn (v := .ty T) hg2 hm2 hv2 rfl hn2 hd2) pa_nil hs2) hs1) (by decide) (by decide) hs1 hpl) fun σ H Q ⟨φ, ρ, μ, rs, k⟩ => by
  refine ⟨φ, ρ, μ, rs, RsP.bd k fun z μ1 _ k1 φ1 v H1 g1 c1 r1 => ?_⟩
  split at k1
  · exact k1.elim
  · rename_i hr
    exact ⟨v, .ty T, _, _, _, rfl, .ty T, tyN_ok c1 r1 hr, kit_ty (hk _ (tyN_mem z hr)), k1 φ1 _ H1 g1 c1 rfl⟩
end
end VY
end
section
set_option Elab.async false
set_option linter.all false
set_option maxRecDepth 100000
/-! statements -/
namespace VY
open PySem PySem.Spec PyProof.Rows L2 VL
variable [LawTabs]
@[simp] def ySt (g : SF) (ρ : Rho) (μ : Mu) : RM S1 := match g ρ μ with
  | some (.nx ρ1 μ1) => some (.ok (.nx ρ1) μ1)
  | some (.rt w μ1) => some (.ok (.rt w) μ1)
  | some (.bk ρ1 μ1) => some (.ok (.bk ρ1) μ1)
  | some (.ct ρ1 μ1) => some (.ok (.ct ρ1) μ1)
  | none => none
theorem ySt_P {K : PySem.W.Frag} {φ : Ph} {H : Hp} {W : XK} {D : Ends} {g : SF} {ρ : Rho} {μ : Mu} (h : SP' K φ H W D (ySt g ρ μ)) : SPost K φ H D (g ρ μ) := by
  unfold ySt at h
  cases e : g ρ μ with
  | none => rw [e] at h; exact h
  | some r => rw [e] at h; cases r <;> exact h
section
variable {X : Cx} {W : WX} {E : XK} {pos : Pos} {e : Expr} {st : Stmt} {rest : List Stmt}
theorem upS {g : SF} (h : PS X st (tS X.K g)) : PS X st (tXS X.K W (ySt g)) := PS.to h fun D σ H ⟨φ, ρ, μ, rs, k⟩ => ⟨φ, ρ, μ, rs, ySt_P k⟩
@[simp] def yNx (ρ : Rho) (μ : Mu) : RM S1 := some (.ok (.nx ρ) μ)
@[simp] def yBk (ρ : Rho) (μ : Mu) : RM S1 := some (.ok (.bk ρ) μ)
@[simp] def yCt (ρ : Rho) (μ : Mu) : RM S1 := some (.ok (.ct ρ) μ)
@[simp] def yNever (_ : Rho) (_ : Mu) : RM S1 := none
@[simp] def ySeq (g h : SX) (ρ : Rho) (μ : Mu) : RM S1 := bd (g ρ μ) fun r μ1 => match r with
  | .nx ρ1 => h ρ1 μ1
  | r => some (.ok r μ1)
@[simp] def yIf (t : BX) (g h : SX) (ρ : Rho) (μ : Mu) : RM S1 := bd (t ρ μ) fun b μ1 => bif b then g ρ μ1 else h ρ μ1
@[simp] def yRet (f : EX) (ρ : Rho) (μ : Mu) : RM S1 := bd (f ρ μ) fun w μ1 => some (.ok (.rt w) μ1)
@[simp] def yDrop (f : EX) (ρ : Rho) (μ : Mu) : RM S1 := bd (f ρ μ) fun _ μ1 => some (.ok (.nx ρ) μ1)
@[simp] def yAsg (f : EX) (t : TF) (ρ : Rho) (μ : Mu) : RM S1 := bd (f ρ μ) fun w μ1 => lf ((t w ρ).map S1.nx) μ1
@[simp] def yPar (i j : Nat) (f : AX) (ρ : Rho) (μ : Mu) : RM S1 := bd (f ρ μ) fun ws μ1 => match ws with
  | [v, w] => some (.ok (.nx ((ρ.set i (some v)).set j (some w))) μ1)
  | _ => none
@[simp] def yPar3 (i j l : Nat) (f : AX) (ρ : Rho) (μ : Mu) : RM S1 := bd (f ρ μ) fun ws μ1 => match ws with
  | [v, w, u] => some (.ok (.nx (((ρ.set i (some v)).set j (some w)).set l (some u))) μ1)
  | _ => none
theorem yss_nil : PSs X [] (tXS X.K W yNx) := PSs.to pss_nil fun D σ H ⟨φ, ρ, μ, rs, k⟩ => k φ σ H (.refl _ _) rs
theorem ys_pass : PS X (.Pass pos) (tXS X.K W yNx) := PS.to ps_pass fun D σ H ⟨φ, ρ, μ, rs, k⟩ => k φ σ H (.refl _ _) rs
theorem ys_break : PS X (.Break pos) (tXS X.K W yBk) := PS.to ps_break fun D σ H ⟨φ, ρ, μ, rs, k⟩ => k φ σ H (.refl _ _) rs
theorem ys_cont : PS X (.Continue pos) (tXS X.K W yCt) := PS.to ps_continue fun D σ H ⟨φ, ρ, μ, rs, k⟩ => k φ σ H (.refl _ _) rs
theorem ys_never : PS X st (tXS X.K W yNever) := PS.to ps_never fun D σ H ⟨φ, ρ, μ, rs, k⟩ => k
theorem yss_never {sts : List Stmt} : PSs X sts (tXS X.K W yNever) := ⟨fun pins s σ H D I ⟨φ, ρ, μ, rs, k⟩ => k.elim⟩
theorem yss_one {g : SX} (h : PS X st (tXS X.K W g)) : PSs X [st] (tXS X.K W g) := pss_one h
theorem yss_cons {g h : SX} (h1 : PS X st (tXS X.K (wf E) g)) (h2 : PSs X rest (tXS X.K (wf E) h)) : PSs X (st :: rest) (tXS X.K (wf E) (ySeq g h)) := PSs.to (pss_cons h1 h2) fun D σ H ⟨φ, ρ, μ, rs, k⟩ => by
  refine ⟨φ, ρ, μ, rs, RsP.bd k fun r μ1 _ k1 => ?_⟩
  cases r with
  | nx ρ1 => exact fun φ1 σ1 H1 g1 r1 => ⟨φ1, ρ1, μ1, r1, SP'.grow g1 k1⟩
  | rt w => exact k1
  | bk ρ1 => exact k1
  | ct ρ1 => exact k1
theorem ys_if {c : Expr} {a b : List Stmt} {t : BX} {g h : SX} (hc : PT X c (tXB X.K W t)) (ha : PSs X a (tXS X.K W g)) (hb : PSs X b (tXS X.K W h)) : PS X (.If c a b pos) (tXS X.K W (yIf t g h)) := PS.to (ps_if hc ha hb) fun D σ H ⟨φ, ρ, μ, rs, k⟩ => by
  refine ⟨φ, ρ, μ, rs, RsP.bd k fun d μ1 _ k1 φ1 H1 g1 c1 => ?_⟩
  cases d with
  | true => exact L2.iteT ⟨φ1, ρ, μ1, rs.step g1.w c1, SP'.grow g1 k1⟩
  | false => exact L2.iteF ⟨φ1, ρ, μ1, rs.step g1.w c1, SP'.grow g1 k1⟩
theorem ys_ret {f : EX} (h : PE X e (tX X.K W f)) : PS X (.Return (some e) pos) (tXS X.K W (yRet f)) := PS.to (ps_ret h) fun D σ H ⟨φ, ρ, μ, rs, k⟩ => ⟨φ, ρ, μ, rs, RsP.bd k fun w μ1 _ k1 => k1⟩
theorem ys_retN : PS X (.Return none pos) (tXS X.K W (yRet (xC .none))) := PS.to ps_retN fun D σ H ⟨φ, ρ, μ, rs, k⟩ => k φ .non H (.refl _ _) rs.c rfl
theorem ys_expr {f : EX} (h : PE X e (tX X.K W f)) (hs : swapsWith e none pos.line X.env = pure false := by rfl) : PS X (.Expr e pos) (tXS X.K W (yDrop f)) := PS.to (ps_expr h hs) fun D σ H ⟨φ, ρ, μ, rs, k⟩ =>
  ⟨φ, ρ, μ, rs, RsP.bd k fun w μ1 _ k1 φ1 v1 H1 g1 c1 r1 => k1 φ1 σ H1 g1 (rs.step g1.w c1)⟩
theorem tXS_asg {K : PySem.W.Frag} {f : EX} {t : TF} {vs : List Nat} : ∀ D σ H, tXS K W (yAsg f t) D σ H → tAsg (tX K W f) (tG K t vs) D σ H := fun D σ H ⟨φ, ρ, μ, rs, k⟩ => by
  refine ⟨φ, ρ, μ, rs, RsP.bd k fun w μ1 _ k1 φ1 v1 H1 g1 c1 r1 => ?_⟩
  obtain ⟨s, e, p⟩ := RsP.lf k1
  obtain ⟨ρ1, e2, rfl⟩ := Option.map_eq_some_iff.mp e
  exact ⟨φ1, ρ, μ1, w, ρ1, rs.step g1.w c1, r1, e2, fun σ2 r2 _ => p φ1 σ2 H1 g1 r2⟩
theorem ys_asg {tg : Expr} {f : EX} {t : TF} {vs : List Nat} (he : PE X e (tX X.K W f)) (hg : PG X tg (tG X.K t vs)) (hs : swapsWithSole [tg] e pos.line X.env = pure false := by rfl) (hw : swappedStores [tg] e X.env = pure none := by rfl) (h1 : (assignEach [tg] X.env).map (·.2) = [assign tg X.env] := by rfl) :
    PS X (.Assign [tg] e pos) (tXS X.K W (yAsg f t)) := PS.to (ps_asg he hg hs hw h1) tXS_asg
theorem ys_set {i : Nat} {x : Str} {f : EX} {pos' : Pos} (hN : X.N.Nodup) (he : PE X e (tX X.K W f)) (hi : X.N[i]? = some x := by rfl) (hx : Loc X.env.scope x := by first | exact Or.inl rfl | exact Or.inr rfl) (hs : swapsWith e (some (.Name x pos')) pos.line X.env = pure false := by rfl)
    (hf : X.fn x = true ∨ X.env.scope.names.lookup x = some .local := by first | exact .inl rfl | exact .inr rfl) : PS X (.Assign [.Name x pos'] e pos) (tXS X.K W (yAsg f (tNm i))) := PS.to (ps_set hN hi hx he hs hf) fun D σ H q => by
  obtain ⟨φ, ρ, μ, rs, k⟩ := q
  refine ⟨φ, ρ, μ, rs, RsP.bd k fun w μ1 _ k1 φ1 v1 H1 g1 c1 r1 => ?_⟩
  exact k1 φ1 _ H1 g1 ((rs.step g1.w c1).put r1)
theorem ys_par {i j : Nat} {x y : Str} {a b : Expr} {f : AX} {px py pt : Pos} {kt k2 pt2} (hc : X.calm = true) (hN : X.N.Nodup) (hij : i ≠ j) (ha : PA X [a, b] (tXA X.K W f)) (hi : X.N[i]? = some x := by rfl) (hj : X.N[j]? = some y := by rfl)
    (hx : X.env.scope.names.lookup x = some .local := by rfl) (hy : X.env.scope.names.lookup y = some .local := by rfl)
    (hw : swappedStores [.Tuple [.Name x px, .Name y py] kt pt] (.Tuple [a, b] k2 pt2) X.env = pure (some [x, y]) := by rfl)
    (hs : swapsWithSole [.Tuple [.Name x px, .Name y py] kt pt] (.Tuple [a, b] k2 pt2) pos.line X.env = pure false := by rfl) :
    PS X (.Assign [.Tuple [.Name x px, .Name y py] kt pt] (.Tuple [a, b] k2 pt2) pos) (tXS X.K W (yPar i j f)) := PS.to (ps_par hc hN hi hj hij hx hy ha hw hs) fun D σ H ⟨φ, ρ, μ, rs, k⟩ => by
  refine ⟨φ, ρ, μ, rs, RsP.bd k fun ws μ1 _ k1 φ1 vs H1 g1 c1 r1 => ?_⟩
  split at k1
  · obtain ⟨u1, r, e2, h1, u2, r', e3, h2, e4⟩ := r1
    subst e2 e3
    have e5 : r' = [] := e4
    subst e5
    exact ⟨u1, u2, rfl, k1 φ1 _ H1 g1 (((rs.step g1.w c1).put h1).put h2)⟩
  · exact k1.elim
theorem ys_par3 {i j l : Nat} {x y z : Str} {a b c : Expr} {f : AX} {px py pz pt : Pos} {kt k2 pt2} (hc : X.calm = true) (hN : X.N.Nodup) (hij : i ≠ j) (hil : i ≠ l) (hjl : j ≠ l) (ha : PA X [a, b, c] (tXA X.K W f)) (hi : X.N[i]? = some x := by rfl) (hj : X.N[j]? = some y := by rfl) (hl : X.N[l]? = some z := by rfl)
    (hx : X.env.scope.names.lookup x = some .local := by rfl) (hy : X.env.scope.names.lookup y = some .local := by rfl) (hz : X.env.scope.names.lookup z = some .local := by rfl)
    (hw : swappedStores [.Tuple [.Name x px, .Name y py, .Name z pz] kt pt] (.Tuple [a, b, c] k2 pt2) X.env = pure (some [x, y, z]) := by rfl)
    (hs : swapsWithSole [.Tuple [.Name x px, .Name y py, .Name z pz] kt pt] (.Tuple [a, b, c] k2 pt2) pos.line X.env = pure false := by rfl) :
    PS X (.Assign [.Tuple [.Name x px, .Name y py, .Name z pz] kt pt] (.Tuple [a, b, c] k2 pt2) pos) (tXS X.K W (yPar3 i j l f)) := PS.to (ps_par3 hc hN hi hj hl hij hil hjl hx hy hz ha hw hs) fun D σ H ⟨φ, ρ, μ, rs, k⟩ => by
  refine ⟨φ, ρ, μ, rs, RsP.bd k fun ws μ1 _ k1 φ1 vs H1 g1 c1 r1 => ?_⟩
  split at k1
  · obtain ⟨u1, r, e2, h1, u2, r', e3, h2, u3, r3, e4, h3, e5⟩ := r1
    subst e2 e3 e4
    have e6 : r3 = [] := e5
    subst e6
    exact ⟨u1, u2, u3, rfl, k1 φ1 _ H1 g1 ((((rs.step g1.w c1).put h1).put h2).put h3)⟩
  · exact k1.elim
/-! raise -/
@[simp] def yOwn (x : Str) (_ : Rho) (μ : Mu) : RM S1 := some (.ex (.own x) μ)
@[simp] def yLow (x f : Str) (g : EX) (ρ : Rho) (μ : Mu) : RM S1 := bd (g ρ μ) fun w μ1 => match w with
  | .d p => some (.ex (.low x f p) μ1)
  | _ => none
theorem ys_raise_own {x ms : Str} {j : Nat} {p p2 pos2 : Pos} (hc : X.calm = true) (tk : Takes X W) (o : OwnE X.K X.mg x) (hg : Gl X x := by rfl) (hdb : (x == ("__debug__" : Str)) = false := by decide) :
    PS X (.Raise (some (.Call (.Name x p) [.Constant (.str ms) j p2] [] pos)) none pos2) (tXS X.K W (yOwn x)) := by
  obtain ⟨q1, q2, q3, q4⟩ := He.exc_ok o.ok
  exact PS.to (ps_raise hc tk (pmk_own PySem.F.excBase_ValueError q1 o.gl q2 (raises_own q3 q4) hg hdb)) fun D σ H ⟨φ, ρ, μ, rs, k⟩ => k φ H (.refl _ _) rs.c
theorem ys_raise_low {x f : Str} {bmB : List Value} {B newId initId : String} {fI : Addr} {g : EX} {p pos2 : Pos} {k : Nat} (hc : X.calm = true) (tk : Takes X W) (LB : LowB bmB B newId initId) (hf : FldOk f) (T : LowC X.K X.mg x f bmB newId (He.ga X.K x) fI) (hr : Room k X.A) (he : PE X e (tX X.K W g)) (hg : Gl X x := by rfl) (hdb : (x == ("__debug__" : Str)) = false := by decide)
    (hs : starEach [e] X.env = (false, eval e X.env) :: starEach [] X.env := by rfl) (hpl : (backTo pos (starEach [] X.env)).any (·.1) = false := by rfl) : PS X (.Raise (some (.Call (.Name x p) [e] [] pos)) none pos2) (tXS X.K W (yLow x f g)) :=
  PS.to (ps_raise hc tk (pmk_lowG LB hf T hr (yaj_cons he yaj_nil hs) hg hdb hs hpl)) fun D σ H ⟨φ, ρ, μ, rs, k⟩ => by
    refine ⟨φ, ρ, μ, rs, ?_⟩
    unfold yLow at k
    cases e1 : g ρ μ with
    | none => rw [e1] at k; exact k.elim
    | some r =>
      cases r with
      | ex x μ1 => rw [e1] at k; unfold xCons; rw [e1]; exact k
      | ok w μ1 =>
        rw [e1] at k
        unfold xCons xNil
        rw [e1]
        simp only [bd] at k ⊢
        split at k
        · intro φ1 vs H1 g1 c1 r1
          obtain ⟨v, rfl, r2⟩ := rvs1 r1
          exact ⟨v, rfl, fun d hd => k φ1 _ d v (g1.trans (Grow.laid hd)) (c1.laid hd) upd_same (Da.step (Grow.laid hd).w _ v r2)⟩
        · exact k.elim
/-! o[i] = e of a changed list, append -/
@[simp] def yApp (fo fe : EX) (ρ : Rho) (μ : Mu) : RM S1 := bd (fo ρ μ) fun o μ1 => match o with
  | .loc n => bd (fe ρ μ1) fun w μ2 => (match w with
    | .d p => (match μ2[n]? with
      | some ds => if ds.length < 1000000 then some (.ok (.nx ρ) (μ2.set n (ds ++ [p]))) else none
      | none => none)
    | _ => none)
  | _ => none
theorem ys_app {o e : Expr} {fo fe : EX} {apos cpos : Pos} (ho : PE X o (tX X.K W fo)) (he : PE X e (tX X.K W fe)) (hbase : attributeBase o "append" X.env (eval o X.env) = eval o X.env := by rfl)
    (hfew : ((backTo cpos (starEach [e] X.env)).all (fun x => !x.1) && (backToKw cpos (keywordEach [] X.env)).all (fun x => x.1.isSome) && decide (([e] : List Expr).length + ([] : List Keyword).length + (if ([] : List Keyword).isEmpty then 0 else 1) < 30)) = true := by rfl)
    (hline : (apos.endLine == cpos.line) = true := by rfl) (hs : starEach [e] X.env = (false, eval e X.env) :: starEach [] X.env := by rfl) (hplain : (backTo cpos (starEach [] X.env)).any (·.1) = false := by rfl)
    (hsw : swapsWith (.Call (.Attribute o "append" apos) [e] [] cpos) none pos.line X.env = pure false := by rfl) : PS X (.Expr (.Call (.Attribute o "append" apos) [e] [] cpos) pos) (tXS X.K W (yApp fo fe)) :=
  PS.to (ps_expr (pe_bm PySem.F.plainAttrs_list PySem.F.slot_list_append PySem.F.type_list_append mt_append ho (yaj_cons he yaj_nil hs) hbase hfew hline hs hplain) hsw) fun D σ H ⟨φ, ρ, μ, rs, k⟩ => by
  refine ⟨φ, ρ, μ, rs, RsP.bd k fun o μ1 _ k1 φ1 v1 H1 g1 c1 r1 => ?_⟩
  have rs1 := rs.step g1.w c1
  split at k1
  · rename_i n
    obtain ⟨a, h1, h2⟩ := id r1
    obtain ⟨xs, hx⟩ := c1.mem (List.mem_of_getElem? h1)
    subst h2
    refine ⟨.inl ⟨rfl, xs, SqL.of hx⟩, ?_⟩
    have k2 := SP'.grow g1 k1
    refine ⟨φ1, ρ, μ1, rs1, ?_⟩
    cases e1 : fe ρ μ1 with
    | none => rw [e1] at k2; exact k2.elim
    | some r =>
      cases r with
      | ex x μ2 => rw [e1] at k2; unfold xCons; rw [e1]; exact k2
      | ok w μ2 =>
        rw [e1] at k2
        unfold xCons xNil
        rw [e1]
        simp only [bd] at k2 ⊢
        intro φ2 vs H2 g2 c2 r2
        obtain ⟨v, rfl, r3⟩ := rvs1 r2
        split at k2
        · rename_i p
          split at k2
          · rename_i ds e4
            split at k2
            · rename_i hl
              obtain ⟨b, h6, h7⟩ := RV.step g2.w _ _ r1
              cases h7
              obtain ⟨ys, h8, h9⟩ := c2.at_ _ a ds h6 e4
              refine ⟨a, ys, v, rfl, rfl, h8, by rw [← h9.len]; exact size_lt (Nat.le_of_lt hl), ?_⟩
              obtain ⟨g4, c4⟩ := cell_write c2 h6 (DaAll.append h9 (show DaAll X.K φ2.av H2 [p] [v] from ⟨v, [], rfl, r3, rfl⟩))
              exact k2 φ2 σ _ (g2.trans g4) ((rs1.step g2.w c2).step g4.w c4)
            · exact k2.elim
          · exact k2.elim
        · exact k2.elim
  · exact k1.elim
/-! for, while -/
noncomputable def forY (t : TF) (body : SX) (src : Option Nat) (all : List PyData) : List PyData → Rho → Mu → RM S1
  | [], ρ, μ => bif VC.sok src all μ then some (.ok (.nx ρ) μ) else none
  | d :: ds, ρ, μ => bif VC.sok src all μ then (match t (.d d) ρ with
    | none => none
    | some ρ1 => bd (body ρ1 μ) fun r μ2 => match r with
      | .nx ρ2 => forY t body src all ds ρ2 μ2
      | .ct ρ2 => forY t body src all ds ρ2 μ2
      | .bk ρ2 => some (.ok (.nx ρ2) μ2)
      | .rt w => some (.ok (.rt w) μ2))
    else none
@[simp] noncomputable def yFor (fi : IF) (t : TF) (body : SX) (ρ : Rho) (μ : Mu) : RM S1 := match fi ρ μ with
  | some (ds, src, μ1) => forY t body src ds ds ρ μ1
  | none => none
theorem ys_for {tg iter : Expr} {body : List Stmt} {fi : IF} {t : TF} {vs : List Nat} {g : SX} (hp : PassesOwn (model X.prog X.w) X.A X.env X.xe) (hc : X.calm = true) (hi : PI X tg iter (VL.tI X.K fi)) (hg : PG X tg (tG X.K t vs)) (hb : PSs X body (tXS X.K (wf E) g))
    (hs : ∀ x, foldedSetIterable iter X.env x = pure x := by intro _; rfl) : PS X (.For tg iter body [] pos) (tXS X.K (wf E) (yFor fi t g)) := PS.to (ps_for hp hc hi hg hb hs) fun D σ H ⟨φ, ρ, μ, rs, k⟩ => by
  unfold yFor at k
  split at k
  · rename_i ds src μ1 e1
    refine ⟨φ, ρ, μ, ds, src, μ1, rs, e1, fun φ1 J H1 g1 c1 wk => ?_⟩
    refine ⟨fun i m σ' H' => m = ds.length - i ∧ ∃ φ2 ρ2 μ2, Grow φ1 φ2 H1 H' ∧ RS X.K φ2 σ' H' ρ2 μ2 ∧ SP' X.K φ2 H' E D (forY t g src ds (ds.drop i) ρ2 μ2), ⟨_, rfl, φ1, ρ, μ1, .refl _ _, rs.step g1.w c1, SP'.grow g1 k⟩, ?_⟩
    rintro i m σ2 H2 ⟨rfl, φ2, ρ2, μ2, g2, rs2, k2⟩
    cases hdi : ds.drop i with
    | nil =>
      rw [hdi] at k2
      unfold forY at k2
      cases hsrc : VC.sok src ds μ2 with
      | false => rw [hsrc] at k2; exact k2.elim
      | true =>
        rw [hsrc] at k2
        have hl : ds.length ≤ i := List.drop_eq_nil_iff.mp hdi
        exact .inl ⟨(wk φ2 H2 μ2 g2.w rs2.c (VC.sok_iff.mp hsrc) i).2 hl, k2 φ2 σ2 H2 (.refl _ _) rs2⟩
    | cons d r =>
      rw [hdi] at k2
      have hil : i < ds.length := by
        by_cases z : i < ds.length
        · exact z
        · rw [List.drop_eq_nil_iff.mpr (by omega)] at hdi; cases hdi
      have hdg : ds[i]? = some d := by
        have := List.getElem?_drop (xs := ds) (i := i) (j := 0)
        rw [hdi] at this
        simpa using this.symm
      have hdr : ds.drop (i + 1) = r := by
        have : (ds.drop i).drop 1 = ds.drop (i + 1) := by rw [List.drop_drop]
        rw [← this, hdi]; rfl
      unfold forY at k2
      cases hsrc : VC.sok src ds μ2 with
      | false => rw [hsrc] at k2; exact k2.elim
      | true =>
        rw [hsrc] at k2
        simp only [cond_true] at k2
        obtain ⟨go, hy⟩ := (wk φ2 H2 μ2 g2.w rs2.c (VC.sok_iff.mp hsrc) i).1 d hdg
        refine .inr ⟨go, fun σ' H' => ∃ φ3 ρ3 μ3, Grow φ1 φ3 H1 H' ∧ RS X.K φ3 σ' H' ρ3 μ3 ∧ SP' X.K φ3 H' E D (forY t g src ds (ds.drop (i + 1)) ρ3 μ3), fun σ' H' hN => ⟨ds.length - (i + 1), by omega, rfl, hN⟩, fun x H3 hyl => ?_⟩
        obtain ⟨g3, c3, hx⟩ := hy x H3 hyl
        have rs3 := rs2.step g3.w c3
        split at k2
        · exact k2.elim
        · rename_i ρ3 e3
          refine ⟨φ2, ρ2, μ2, .d d, ρ3, rs3, hx, e3, fun σ4 rs4 _ => ⟨φ2, ρ3, μ2, rs4, ?_⟩⟩
          rw [hdr]
          refine RsP.bd (SP'.grow g3 k2) fun r1 μ5 _ k3 => ?_
          cases r1 with
          | nx ρ5 => exact fun φ5 σ5 H5 g5 r5 => ⟨φ5, ρ5, μ5, (g2.trans g3).trans g5, r5, SP'.grow g5 k3⟩
          | ct ρ5 => exact fun φ5 σ5 H5 g5 r5 => ⟨φ5, ρ5, μ5, (g2.trans g3).trans g5, r5, SP'.grow g5 k3⟩
          | bk ρ5 => exact k3
          | rt w => exact k3
  · exact k.elim
def whileY (t : BX) (body : SX) : Nat → Rho → Mu → RM S1
  | 0, _, _ => none
  | n + 1, ρ, μ => bd (t ρ μ) fun b μ1 => match b with
    | false => some (.ok (.nx ρ) μ1)
    | true => bd (body ρ μ1) fun r μ2 => match r with
      | .nx ρ2 => whileY t body n ρ2 μ2
      | .ct ρ2 => whileY t body n ρ2 μ2
      | .bk ρ2 => some (.ok (.nx ρ2) μ2)
      | .rt w => some (.ok (.rt w) μ2)
def yWhile (t : BX) (body : SX) (n : Nat) : SX := whileY t body n
theorem ys_while {c : Expr} {body : List Stmt} {t : BX} {g : SX} (n : Nat) (hp : PassesOwn (model X.prog X.w) X.A X.env X.xe) (hc : PT X c (tXB X.K (wf E) t)) (hb : PSs X body (tXS X.K (wf E) g)) : PS X (.While c body [] pos) (tXS X.K (wf E) (yWhile t g n)) := PS.to (ps_while hp hc hb) fun D σ H ⟨φ, ρ, μ, rs, k⟩ => by
  refine ⟨fun m σ' H' => ∃ φ2 ρ2 μ2, RS X.K φ2 σ' H' ρ2 μ2 ∧ SP' X.K φ2 H' E D (whileY t g m ρ2 μ2), ⟨n, φ, ρ, μ, rs, k⟩, ?_⟩
  rintro m σ2 H2 ⟨φ2, ρ2, μ2, rs2, k2⟩
  cases m with
  | zero => exact k2.elim
  | succ m =>
    unfold whileY at k2
    refine ⟨φ2, ρ2, μ2, rs2, RsP.bd k2 fun b μ3 _ k3 φ3 H3 g3 c3 => ?_⟩
    have rs3 := rs2.step g3.w c3
    have k3 := SP'.grow g3 k3
    cases b with
    | false => exact L2.iteF (k3 φ3 σ2 H3 (.refl _ _) rs3)
    | true =>
      refine L2.iteT ⟨fun σ' H' => ∃ φ4 ρ4 μ4, RS X.K φ4 σ' H' ρ4 μ4 ∧ SP' X.K φ4 H' E D (whileY t g m ρ4 μ4), fun σ' H' hN => ⟨m, by omega, hN⟩, φ3, ρ2, μ3, rs3, ?_⟩
      refine RsP.bd k3 fun r1 μ5 _ k4 => ?_
      cases r1 with
      | nx ρ5 => exact fun φ5 σ5 H5 g5 r5 => ⟨φ5, ρ5, μ5, r5, SP'.grow g5 k4⟩
      | ct ρ5 => exact fun φ5 σ5 H5 g5 r5 => ⟨φ5, ρ5, μ5, r5, SP'.grow g5 k4⟩
      | bk ρ5 => exact k4
      | rt w => exact k4
end
end VY
end
section
set_option Elab.async false
set_option linter.all false
set_option maxRecDepth 100000
/-! defs: what they promise, with no guard around; calls -/
namespace VY
open PySem PySem.Spec PyProof.Rows L2 VL
variable [LawTabs]
structure RoomG (k : Nat) (A : Around) : Prop where
  r : Room k A
  gd : A.guards = some []
theorem RoomG.mono {j k : Nat} {A : Around} (r : RoomG k A) (h : j ≤ k) : RoomG j A := ⟨r.r.mono h, r.gd⟩
theorem RoomG.deeper {k : Nat} {A : Around} (r : RoomG (k + 1) A) (env : Env) : RoomG k (A.deeper env) := ⟨r.r.deeper env, r.gd⟩
structure FnG (P : Program) (w : World) (K : PySem.W.Frag) (mg : Str → Option Value) (base : Heap) (k : Nat) (f : Addr) (fd : FuncData) (ps : List Str) (sp : Sp) : Prop where
  len : ∀ vs H Q E, sp vs H Q E → vs.length = ps.length
  run : ∀ (A : Around) (outer : List Env) (s : Shared) (H : Hp) (args : Args) (us : List Value) (vs : List V) (Q : VK) (E : XK), RoomG k A → Env0 P w K mg base A outer s H → BindsTo s fd args (ps.zip us) → Vals vs us → sp vs H Q E →
    codeAny (model P w) A (.call (.ref f) args) (CR (L2.CX P w) outer P w H s Q E) s
def spY (K : PySem.W.Frag) (n : Nat) (m : YM) : Sp := fun vs H Q E => ∃ φ μ ws, Cells K φ H μ ∧ RVs K φ H ws vs ∧ ws.length = n ∧ VP K φ H E Q (m μ ws)
def fnY (fresh : Bool) (n : Nat) (body : SX) (μ : Mu) (ws : List Vw) : RM Vw := match body (ws.map some ++ List.replicate (n - ws.length) none) μ with
  | some (.ok (.rt w) μ1) => (match frz fresh μ.length w μ1 with
    | some r => some (.ok r.1 r.2)
    | none => none)
  | some (.ok (.nx _) μ1) => some (.ok (.d .none) (μ1.take μ.length))
  | some (.ex e μ1) => some (.ex e (μ1.take μ.length))
  | _ => none
section
variable {P : Program} {w : World} {K : PySem.W.Frag} {mg : Str → Option Value} {base : Heap}
theorem FnG.mono {j k : Nat} {f : Addr} {fd : FuncData} {ps : List Str} {sp : Sp} (F : FnG P w K mg base j f fd ps sp) (h : j ≤ k) : FnG P w K mg base k f fd ps sp := ⟨F.len, fun A outer s H args us vs Q E hr => F.run A outer s H args us vs Q E (hr.mono h)⟩
theorem fnG_ok (fresh : Bool) {x qual : Str} {params : Arguments} {body : List Stmt} {scope : Scope} {kws : List (Str × V)} {f : Addr} {fd : FuncData} {N ps : List Str} {k : Nat} {g : SX} (F : FunD K x qual params body scope [] kws f fd) (S : FnScope N ps scope)
    (h : ∀ (cdv : Value) (A : Around) (outer : List Env) (s : Shared) (H : Hp) (E : XK), RoomG k (A.deeper (envOfC qual scope s.heap.objs.size f cdv)) → PSs (cxOf (L2.CX P w) P w K mg base N qual scope f cdv A outer s H E) body (tXS K (wf E) g)) :
    FnG P w K mg base (k + 1) f fd ps (spY K ps.length (fnY fresh N.length g)) := by
  have len : ∀ vs H Q E, spY K ps.length (fnY fresh N.length g) vs H Q E → vs.length = ps.length := fun vs H Q E ⟨φ, μ, ws, c, r, hl, k⟩ => by rw [← r.len, hl]
  refine ⟨len, fun A outer s H args us vs Q E hr e0 hb r hsp => ?_⟩
  obtain ⟨oc, od, dV, kV, doc, pm, an, cdv, ct, osl, rfl, lk, hcd, _, _⟩ := F.ex
  refine LamX.run_ofS lk hcd S hr.r e0 hb r (len _ _ _ _ hsp) fun _ => ⟨_, h cdv A outer s H E (hr.deeper _), ?_⟩
  obtain ⟨φ, μ, ws, c, rv, hl, kk⟩ := hsp
  refine ⟨φ, _, μ, rvs_start c rv, ?_⟩
  unfold fnY at kk
  cases e : g (ws.map some ++ List.replicate (N.length - ws.length) none) μ with
  | none => rw [e] at kk; exact kk.elim
  | some q =>
    rw [e] at kk
    cases q with
    | ex x μ1 => exact XP.cut c kk
    | ok q μ1 =>
      cases q with
      | nx ρ1 => exact fun φ2 σ2 H2 g2 r2 => kk φ .non H2 (cut_grow g2) (cut_cells c g2 r2.c) rfl
      | rt w1 =>
        cases e2 : frz fresh μ.length w1 μ1 with
        | none => simp only [e2] at kk; exact kk.elim
        | some z =>
          simp only [e2] at kk
          exact fun φ2 v2 H2 g2 c2 r2 => frz_post c g2 c2 r2 e2 kk
      | bk ρ1 => exact kk.elim
      | ct ρ1 => exact kk.elim
/-- what may be called by the name x -/
structure CalY (P : Program) (w : World) (K : PySem.W.Frag) (mg : Str → Option Value) (base : Heap) (k : Nat) (x : Str) (n : Nat) (m : YM) : Prop where
  ex : ∃ fd ps, FnG P w K mg base k (He.ga K x) fd ps (spY K n m) ∧ mg x = some (.ref (He.ga K x)) ∧ PySem.W.keepIn K (.ref (He.ga K x)) = true ∧ Binds K fd ps []
theorem CalY.mono {j k : Nat} {x : Str} {n : Nat} {m : YM} (c : CalY P w K mg base j x n m) (h : j ≤ k) : CalY P w K mg base k x n m := by
  obtain ⟨fd, ps, h1, h2, h3, h4⟩ := c.ex
  exact ⟨fd, ps, h1.mono h, h2, h3, h4⟩
theorem calY_ok (fresh : Bool) {x : Str} {params : Arguments} {body : List Stmt} {scope : Scope} {fd : FuncData} {N ps : List Str} {k : Nat} {g : SX} (hf : mg x = some (.ref (He.ga K x))) (F : FunD K x x params body scope [] [] (He.ga K x) fd) (S : FnScope N ps scope)
    (hb : ∀ (kV doc pm : Value) (an : Option Addr) (cdv ct : Value) (us : List Value), us.length = ps.length → bindArgs (PySem.W.fnOf x x params body scope .none kV doc pm an cdv ct) ⟨us, []⟩ = pure (ps.zip us))
    (h : ∀ (cdv : Value) (A : Around) (outer : List Env) (s : Shared) (H : Hp) (E : XK), RoomG k (A.deeper (envOfC x scope s.heap.objs.size (He.ga K x) cdv)) → PSs (cxOf (L2.CX P w) P w K mg base N x scope (He.ga K x) cdv A outer s H E) body (tXS K (wf E) g)) :
    CalY P w K mg base (k + 1) x ps.length (fnY fresh N.length g) := ⟨fd, ps, fnG_ok fresh F S h, hf, F.kp, F.bindsN hb⟩
end
/-- a call with data alone: it sees none of the caller's lists -/
def isD : Vw → Bool
  | .loc _ => false
  | _ => true
def cl (m : YM) (μ1 : Mu) (ws : List Vw) : RM Vw := bif ws.all isD then (match m [] ws with
  | some (.ok (.d v) _) => some (.ok (.d v) μ1)
  | some (.ok (.loc j) μ2) => (match μ2[j]? with
    | some ds => some (.ok (.loc μ1.length) (μ1 ++ [ds]))
    | none => none)
  | some (.ex e _) => some (.ex e μ1)
  | _ => none) else m μ1 ws
section
variable {K : PySem.W.Frag} {φ φ2 : Ph} {H H2 : Hp} {μ1 μ2 : Mu}
theorem grow_out (g : Grow (φ.1 ++ φ.2, []) φ2 H H2) : Grow φ φ H H2 := ⟨⟨[], by simp, by simp⟩, ⟨[], by simp, by simp⟩, fun a o h _ nt => g.ext a o h (fun z => by cases z) nt, g.live⟩
theorem cells_out (c : Cells K φ H μ1) (g : Grow (φ.1 ++ φ.2, []) φ2 H H2) (tb : LamX.Tabs (LawTabs.T K) H2) : Cells K φ H2 μ1 := by
  refine ⟨c.nd, c.len, fun n a ds h1 h2 => ?_, fun a ha z => c.tr a ha (g.live a z), tb⟩
  obtain ⟨xs, h, hs⟩ := c.at_ n a ds h1 h2
  exact ⟨xs, g.ext a _ h (fun z => by cases z) (fun ps z => by cases z), DaAll.step (grow_out g).w _ _ hs⟩
theorem cells_in (c : Cells K φ H μ1) : Cells K (φ.1 ++ φ.2, []) H [] := by
  refine ⟨List.nodup_nil, rfl, fun n a ds h1 _ => by simp at h1, fun a ha z => ?_, c.tb⟩
  rcases List.mem_append.mp ha with ha | ha
  · exact c.tr a ha z
  · obtain ⟨xs, h⟩ := c.mem ha
    rw [h] at z; cases z
theorem sub_out (g : Grow (φ.1 ++ φ.2, []) φ2 H H2) : ∀ a ∈ φ.av, a ∈ φ2.av := fun a ha => by
  obtain ⟨χ, f, _⟩ := g.fst
  refine List.mem_append_left _ ?_
  rw [f]
  exact List.mem_append_left _ ha
theorem rvs_in : ∀ {ws : List Vw} {vs : List V}, ws.all isD = true → RVs K φ H ws vs → RVs K (φ.1 ++ φ.2, []) H ws vs
  | [], _, _, r => r
  | w :: ws, _, h, ⟨v, vs, e, r, rs⟩ => by
    simp only [List.all_cons, Bool.and_eq_true] at h
    refine ⟨v, vs, e, ?_, rvs_in h.2 rs⟩
    have ea : Ph.av (φ.1 ++ φ.2, ([] : List Addr)) = φ.av := by simp [Ph.av]
    cases w with
    | d p => show Da K _ H p v; rw [ea]; exact r
    | loc n => cases h.1
    | kl ns => obtain ⟨a, e1, k⟩ := r; exact ⟨a, e1, by rw [ea]; exact k⟩
    | rg lo hi => exact r
theorem spY_cl {n : Nat} {m : YM} {ws : List Vw} {vs : List V} {Q : VK} {E : XK} (hc : Cells K φ H μ1) (r : RVs K φ H ws vs) (hl : ws.length = n) (h : VP K φ H E Q (cl m μ1 ws)) : spY K n m vs H Q E := by
  unfold cl at h
  cases ha : ws.all isD with
  | false => rw [ha] at h; exact ⟨φ, μ1, ws, hc, r, hl, h⟩
  | true =>
    rw [ha] at h
    simp only [cond_true] at h
    refine ⟨(φ.1 ++ φ.2, []), [], ws, cells_in hc, rvs_in ha r, hl, ?_⟩
    cases e : m [] ws with
    | none => rw [e] at h; exact h
    | some q =>
      rw [e] at h
      cases q with
      | ex x μ2 =>
        cases x with
        | own x => exact fun φ2 H2 g2 c2 => h φ H2 (grow_out g2) (cells_out hc g2 c2.tb)
        | low x f p => exact fun φ2 H2 d v g2 c2 hd hv => h φ H2 d v (grow_out g2) (cells_out hc g2 c2.tb) hd (Da.weak (sub_out g2) _ _ hv)
      | ok w μ2 =>
        cases w with
        | d v => exact fun φ2 v2 H2 g2 c2 r2 => h φ v2 H2 (grow_out g2) (cells_out hc g2 c2.tb) (Da.weak (sub_out g2) _ _ r2)
        | kl ns => exact h.elim
        | rg lo hi => exact h.elim
        | loc j =>
          simp only at h
          split at h
          · rename_i ds e2
            intro φ2 v2 H2 g2 c2 r2
            obtain ⟨a, h1, h2⟩ := r2
            obtain ⟨xs, h3, h4⟩ := c2.at_ j a ds h1 e2
            obtain ⟨ψ, ep, hψ⟩ := g2.pre
            have ha2 : a ∈ φ2.2 := List.mem_of_getElem? h1
            have hna : H a = none := by
              rw [ep] at ha2
              rcases List.mem_append.mp ha2 with z | z
              · cases z
              · exact hψ a z
            have g1 : Grow φ (φ.1, φ.2 ++ [a]) H H2 := ⟨⟨[], by simp, by simp⟩, ⟨[a], rfl, fun b hb => by rw [List.mem_singleton.mp hb]; exact hna⟩, fun b o hb _ nt => g2.ext b o hb (fun z => by cases z) nt, g2.live⟩
            have hnot : a ∉ φ.av := hc.notin hna
            have c1 := cells_out hc g2 c2.tb
            refine h (φ.1, φ.2 ++ [a]) v2 H2 g1 ⟨?_, by simp [hc.len], fun n b es q1 q2 => ?_, fun b hb z => hc.tr b hb (g2.live b z), c2.tb⟩ ⟨a, by
              show (φ.2 ++ [a])[μ1.length]? = some a
              rw [← hc.len, List.getElem?_append_right (Nat.le_refl _), Nat.sub_self]; rfl, h2⟩
            · show (φ.2 ++ [a]).Nodup
              rw [List.nodup_append]
              refine ⟨hc.nd, by simp, fun b hb d hd => ?_⟩
              rw [List.mem_singleton.mp hd]
              intro z; subst z
              exact hnot (List.mem_append_right _ hb)
            · have sub : ∀ b ∈ Ph.av (φ.1, φ.2 ++ [a]), b ∈ φ2.av := fun b hb => by
                rcases List.mem_append.mp hb with hb | hb
                · exact sub_out g2 b (List.mem_append_left _ hb)
                · rcases List.mem_append.mp hb with hb | hb
                  · exact sub_out g2 b (List.mem_append_right _ hb)
                  · rw [List.mem_singleton.mp hb]; exact List.mem_append_right _ ha2
              by_cases hn : n < φ.2.length
              · have q1' : φ.2[n]? = some b := by
                  have : (φ.2 ++ [a])[n]? = some b := q1
                  rwa [List.getElem?_append_left hn] at this
                rw [List.getElem?_append_left (by rw [← hc.len]; exact hn)] at q2
                obtain ⟨ys, h5, h6⟩ := hc.at_ n b es q1' q2
                exact ⟨ys, g2.ext b _ h5 (fun z => by cases z) (fun ps z => by cases z), DaAll.step g1.w _ _ h6⟩
              · have hlt : n < (φ.2 ++ [a]).length := (List.getElem?_eq_some_iff.mp q1).1
                have e3 : n = φ.2.length := by
                  rw [List.length_append, List.length_singleton] at hlt; omega
                subst e3
                have q1' : (φ.2 ++ [a])[φ.2.length]? = some b := q1
                rw [List.getElem?_append_right (Nat.le_refl _), Nat.sub_self] at q1'
                rw [List.getElem?_append_right (by rw [hc.len]; exact Nat.le_refl _), hc.len, Nat.sub_self] at q2
                cases q1'
                cases q2
                exact ⟨xs, h3, DaAll.weak sub _ _ h4⟩
          · exact h.elim
end
@[simp] def xCall (n : Nat) (m : YM) (fa : AX) (ρ : Rho) (μ : Mu) : RM Vw := bd (fa ρ μ) fun ws μ1 => if ws.length = n then cl m μ1 ws else none
section
variable {X : Cx} {W : WX} {k n i : Nat} {x y : Str} {m : YM} {e : Expr} {es : List Expr} {fa : AX} {p pos : Pos}
theorem run_fnG {f : Addr} {fd : FuncData} {ps : List Str} {sp : Sp} {pins : List (Addr × Obj)} {σ : L2.St} {H : Hp} {s : Shared} {Q : VK} {us : List Value} {vs : List V} (F : FnG X.prog X.w X.K X.mg X.base k f fd ps sp) (hr : RoomG k X.A) (hb : Binds X.K fd ps []) (hx : PassesAt (L2.CX X.prog X.w) X σ (WE W σ))
    (I : Inv X pins σ H s) (r : Vals vs us) (h : sp vs H Q (WE W σ)) : wpAny (model X.prog X.w) X.A (call (.ref f) us) (EP X pins σ Q) X.xe s := by
  have hl : us.length = ps.length := by rw [← r.length]; exact F.len _ _ _ _ h
  have hb' := hb s us I.kIn (by rw [List.append_nil]; exact hl)
  rw [List.append_nil] at hb'
  refine wpAny_call (codeAny_mono (F.run X.A X.stack s H ⟨us, []⟩ us vs Q (WE W σ) hr I.env0 hb' r h) fun r s' hq => ?_)
  cases r with
  | error e => exact hx pins H s e s' I hq
  | ok fl =>
    cases fl with
    | ret u => exact I.after hq
    | next => exact False.elim hq
    | brk => exact False.elim hq
    | cont => exact False.elim hq
theorem spY_of {φ : Ph} {H : Hp} {μ1 : Mu} {ws : List Vw} {vs : List V} {Q : VK} {E : XK} (hc : Cells X.K φ H μ1) (r : RVs X.K φ H ws vs) (h : VP X.K φ H E Q (if ws.length = n then cl m μ1 ws else none)) : spY X.K n m vs H Q E := by
  by_cases hl : ws.length = n
  · rw [if_pos hl] at h
    exact spY_cl hc r hl h
  · rw [if_neg hl] at h
    exact h.elim
theorem yj_call (tk : Takes X W) (c : CalY X.prog X.w X.K X.mg X.base k x n m) (hr : RoomG k X.A) (ha : PA X (e :: es) (tXA X.K W fa)) (hg : Gl X x := by rfl) (hdb : (x == ("__debug__" : Str)) = false := by decide)
    (he : starEach (e :: es) X.env = (false, eval e X.env) :: starEach es X.env := by rfl) (hpl : (backTo pos (starEach es X.env)).any (·.1) = false := by rfl) : PE X (.Call (.Name x p) (e :: es) [] pos) (tX X.K W (xCall n m fa)) := by
  obtain ⟨fd, ps, F, hm, hk, hb⟩ := c.ex
  refine ⟨fun pins s σ H Q I h => ?_⟩
  refine wpAny_Call_Name_kw (ld_glob I hg hm ?_ hdb)
  obtain ⟨φ, ρ, μ, rs, kk⟩ := h
  refine PySem.W.callWith_K (h₀ := X.base) I.ok.mod.kin hk (thn (ha.run pos pins s σ H (fun vs H1 => spY X.K n m vs H1 Q (WE W σ)) I ⟨φ, ρ, μ, rs, ?_⟩) fun us s1 ⟨vs, H1, I1, r, q⟩ => ⟨I1.kIn, ?_⟩) he hpl
  · exact RsP.bd kk fun ws μ1 _ k1 φ1 vs H1 g1 c1 r1 => spY_of c1 r1 (VP.grow g1 k1)
  · exact run_fnG F hr hb (passAt tk σ) I1 r q
theorem yj_call0 (tk : Takes X W) (c : CalY X.prog X.w X.K X.mg X.base k x n m) (hr : RoomG k X.A) (hg : Gl X x := by rfl) (hdb : (x == ("__debug__" : Str)) = false := by decide) : PE X (.Call (.Name x p) [] [] pos) (tX X.K W (xCall n m xNil)) := by
  obtain ⟨fd, ps, F, hm, hk, hb⟩ := c.ex
  refine ⟨fun pins s σ H Q I h => ?_⟩
  refine wpAny_Call_Name_kw (ld_glob I hg hm ?_ hdb)
  obtain ⟨φ, ρ, μ, rs, kk⟩ := h
  refine PySem.W.callWith_K0 I.kIn hk (run_fnG (us := []) (vs := []) F hr hb (passAt tk σ) I .nil ?_)
  exact spY_of (ws := []) rs.c rfl kk
/-- a call of the def that a slot holds -/
@[simp] def xCallV (L : Str → Option (Nat × YM)) (i : Nat) (fa : AX) (ρ : Rho) (μ : Mu) : RM Vw := match ρ[i]? with
  | some (some (.d (.dict [(.str q, .str x)]))) => if q = "def" then (match L x with
    | some (n, m) => bd (fa ρ μ) fun ws μ1 => if ws.length = n then cl m μ1 ws else none
    | none => none) else none
  | _ => none
theorem yj_callV {L : Str → Option (Nat × YM)} (tk : Takes X W) (C : ∀ x n m, L x = some (n, m) → CalY X.prog X.w X.K X.mg X.base k x n m) (hr : RoomG k X.A) (ha : PA X (e :: es) (tXA X.K W fa)) (hN : X.N[i]? = some y := by rfl) (hv : Vis X.env.scope y := by first | exact Or.inl rfl | exact Or.inr (Or.inl rfl) | exact Or.inr (Or.inr rfl))
    (hdb : (y == ("__debug__" : Str)) = false := by decide) (hcd : (y == ("__classdict__" : Str)) = false := by decide)
    (he : starEach (e :: es) X.env = (false, eval e X.env) :: starEach es X.env := by rfl) (hpl : (backTo pos (starEach es X.env)).any (·.1) = false := by rfl) : PE X (.Call (.Name y p) (e :: es) [] pos) (tX X.K W (xCallV L i fa)) := by
  refine ⟨fun pins s σ H Q I h => ?_⟩
  obtain ⟨φ, ρ, μ, rs, kk⟩ := h
  unfold xCallV at kk
  split at kk
  · rename_i q x hi
    split at kk
    · rename_i hq
      subst hq
      split at kk
      · rename_i n m hL
        obtain ⟨fd, ps, F, hm, hk, hb⟩ := (C x n m hL).ex
        obtain ⟨v, hσ, hv2⟩ := rs.at_ i _ hi
        obtain rfl : v = .ref (He.ga X.K x) := Da.defRef hv2
        refine wpAny_Call_Name_kw (thn ((pe_var (pos := p) hN hv hdb hcd).run pins s σ H (fun v H1 => v = .ref (He.ga X.K x) ∧ H1 = H) I ⟨_, hσ, rfl, rfl⟩) fun u s1 ⟨v, H1, I1, r1, q1⟩ => ?_)
        obtain ⟨ev, eH⟩ := q1
        subst ev eH
        cases r1
        refine PySem.W.callWith_K (h₀ := X.base) I.ok.mod.kin hk (thn (ha.run pos pins s1 σ H1 (fun vs H2 => spY X.K n m vs H2 Q (WE W σ)) I1 ⟨φ, ρ, μ, rs, ?_⟩) fun us s2 ⟨vs, H2, I2, r, q2⟩ => ⟨I2.kIn, ?_⟩) he hpl
        · exact RsP.bd kk fun ws μ1 _ k1 φ1 vs H1 g1 c1 r1 => spY_of c1 r1 (VP.grow g1 k1)
        · exact run_fnG F hr hb (passAt tk σ) I2 r q2
      · exact kk.elim
    · exact kk.elim
  · exact kk.elim
/-- a def as a value -/
theorem yj_fn (hm : X.mg x = some (.ref (He.ga X.K x))) (hg : Gl X x := by rfl) (hd : (x == ("__debug__" : Str)) = false := by decide) : PE X (.Name x pos) (tX X.K W (xC (fnD x))) := yj_c (ej_fn hm hg hd)
end
end VY
end
section
set_option Elab.async false
set_option linter.all false
set_option maxRecDepth 100000
/-! repr of data -/
namespace VY
open PySem PySem.Spec PyProof.Rows L2 VL
variable [LawTabs]
def reprOk (p : PyData) : Bool := p.plain && p.showable && !p.hasDict && decide (p.shown.length ≤ 1000000) && decide (p.depth ≤ 100)
@[simp] def oReprD (μ : Mu) (ws : List Vw) : Option Vw := match ws with
  | [w] => (match toD μ w with
    | some p => if reprOk p = true then some (.d (.str p.shown)) else none
    | none => none)
  | _ => none
def rReprD (K : PySem.W.Frag) : List V → Hp → VK → Prop := fun xs H Q => ∃ x p, xs = [x] ∧ Dp K H x p ∧ reprOk p = true ∧ Q (.str p.shown) H
theorem call_reprD {X : Cx} (hg : X.A.guards = some []) (hu : X.A.units + 200 < cLine) : CallR X (.builtin "repr") (rReprD X.K) := by
  intro pins s σ H xs us Q I r h
  obtain ⟨x, p, rfl, hd, ok, q⟩ := h
  unfold reprOk at ok
  simp only [Bool.and_eq_true, decide_eq_true_eq, Bool.not_eq_true'] at ok
  obtain ⟨⟨⟨⟨h1, h2⟩, h3⟩, h4⟩, h5⟩ := ok
  cases r with
  | cons r rr =>
    cases rr
    rename_i u
    have hsz : p.shown.length ≤ sizeLine := size_ok h4
    obtain ⟨as, rd⟩ := Dp.reads I p x u hd r
    have seq : ∀ a, u = .ref a → wpAny (model X.prog X.w) X.A (call (.builtin "repr") [u]) (EP X pins σ Q) X.xe s := fun a e => by
      subst e
      exact repr_of_reads' rd h2 (PySem.PyData.noDict_hsm h3) hg (by omega) (fun b o e => e) (fun h' t tk hk => ⟨.str _, H, I.kept hk, ⟨_, rfl⟩, q⟩) hsz
    cases p with
    | none => cases hd; cases r; exact PySem.P.repr_of_none ⟨.str _, H, I.tok _, ⟨_, rfl⟩, q⟩
    | bool b => cases hd; cases r; exact PySem.P.repr_of_bool ⟨.str _, H, I.tok _, ⟨_, rfl⟩, q⟩
    | int i =>
      cases hd
      obtain ⟨t, rfl⟩ := r
      exact PySem.P.repr_of_int (by simpa [PyData.showable] using h2) ⟨.str _, H, I.tok _, ⟨_, rfl⟩, q⟩
    | str z =>
      cases hd
      obtain ⟨t, rfl⟩ := r
      exact PySem.P.repr_of_str ⟨.str _, H, I.tok _, ⟨_, rfl⟩, q⟩ (by simpa [PyData.shown] using hsz)
    | list ds =>
      obtain ⟨a, e⟩ : ∃ a, u = .ref a := by cases rd with | _ => exact ⟨_, rfl⟩
      exact seq a e
    | tuple ds =>
      obtain ⟨a, e⟩ : ∃ a, u = .ref a := by cases rd with | _ => exact ⟨_, rfl⟩
      exact seq a e
    | dict ds =>
      obtain ⟨a, e⟩ : ∃ a, u = .ref a := by cases rd with | _ => exact ⟨_, rfl⟩
      exact seq a e
theorem oReprD_ok {K : PySem.W.Frag} : OL K (rReprD K) oReprD := by
  intro φ H μ ws w vs Q c r e k
  unfold oReprD at e
  split at e
  · rename_i x
    split at e
    · rename_i p ep
      split at e
      · rename_i ok
        cases e
        obtain ⟨v, rfl, h⟩ := rvs1 r
        have hp : p.plain = true := by unfold reprOk at ok; simp only [Bool.and_eq_true] at ok; exact ok.1.1.1.1
        exact ⟨v, p, rfl, toD_ok c h ep hp, ok, post_here k c rfl⟩
      · cases e
    · cases e
  · cases e
end VY
end
section
set_option Elab.async false
set_option linter.all false
set_option maxRecDepth 100000
set_option maxHeartbeats 2000000
/-! a lambda without parameters handed to a def that calls it in a try -/
namespace VY
open PySem PySem.Spec PyProof.Rows L2 VL LamX
variable [LawTabs]
section
variable {X : Cx} {pins : List (Addr × Obj)} {σ : L2.St} {H : Hp} {s : Shared}
/-- the lambda is made: its code object is new, or found in the table -/
theorem lam_make3 {T : List (Addr × Str)} {c P : Addr} {params : Arguments} {body : Expr} {scope : Scope} {pos : Pos} {E : Value → Shared → Prop} {Q : Value → Shared → Prop} (I : Inv X pins σ H s) (TB : TabB X.base X.mg c P) (hcode : X.env.code = .ref c)
    (hm : (P, X.env.qual ++ "<lambda>") ∈ T) (hu : ∀ p ∈ T, p.1 = P → p.2 = X.env.qual ++ "<lambda>") (hT : Tabs T H) (hdef : defaultsOf params X.env = ([], [])) (hfree : ∀ y ∈ scope.names, y.2 = .free → ∃ c, X.env.cells.lookup y.1 = some c)
    (h : ∀ (f c' : Addr) (pm ctv : Value) (H1 : Hp) (s' : Shared), Inv X pins σ H1 s' → ExtN H H1 → (∀ a, H1 a = none → H a = none) → Tabs T H1 →
      s'.heap.get? f = some (PySem.W.kla_obj "<lambda>" (X.env.qual ++ "<lambda>") params body scope (cloFrom X.env.cells scope.names []) pm c' ctv) → H1 f = none → f ∉ frs X.stack → H1 c' = some (CodeO c' (X.env.qual ++ "<lambda>")) → Q (.ref f) s') :
    wpAny (model X.prog X.w) X.A (eval (.Lambda params body scope pos) X.env) Q E s := by
  obtain ⟨ps, hP, ht, ha⟩ := hT _ hm
  refine PySem.W.kla_eval hdef ?_
  have bP : s.heap.BuiltinsAt X.mg P := TB.bm.keeps I.bk
  have hP' : s.heap.get? P = some { cls := .none, data := .fields ps } := I.hok P _ hP
  have nofr : ∀ f, s.heap.objs.size ≤ f → f ∉ frs X.stack := fun f hf z => by
    rcases List.mem_cons.mp (I.stkSub _ z) with e | e
    · have h1 := I.lt
      rw [← e] at h1
      exact Nat.lt_irrefl _ (Nat.lt_of_lt_of_le h1 hf)
    · exact I.nofs hf e
  cases hc : codeAmong pos ps.toList with
  | none =>
    refine PySem.W.kla_makeFunction (mg := X.mg) (c := c) (P := P) (ps := ps) (closure_ok hfree) I.ok.glob (I.mod.glob.keeps I.bk) hcode (TB.code.keeps I.bk) hP' ht hc TB.gP bP fun c' ctv h' tk hx hge hlt hrec htb => ?_
    obtain ⟨c2, oc, vs, t, e2, hoc, hd, hv⟩ := hrec
    cases e2
    have hsz : s.heap.objs.size ≤ h'.objs.size := Nat.le_trans hge (Nat.le_of_lt hlt)
    have nC : H c' = none := I.hok.fresh hge
    have I1 := inv_table (t' := tk) (more := #[rawInt pos.line, rawInt pos.col, .ref c']) (h' := h'.push (PySem.W.kla_obj "<lambda>" (X.env.qual ++ "<lambda>") params body scope (cloFrom X.env.cells scope.names []) ((X.mg "__name__").getD .none) c' ctv)) I hP
      (fun b o hb e => Heap.get?_push_of_some _ (hx b o hb e)) (Heap.get?_push_of_some _ htb) hge ⟨oc, vs, t, Heap.get?_push_of_some _ hoc, hd, hv⟩
    have hE : ExtN H (upd (upd H P (.tbl (ps ++ #[rawInt pos.line, rawInt pos.col, .ref c']))) c' (CodeO c' (X.env.qual ++ "<lambda>"))) := fun b o e n => by
      rw [upd_ne (ne_of_none e nC), upd_ne (fun z => n ps (Option.some.inj (e.symm.trans (by rw [z]; exact hP))))]
      exact e
    have eL : (ps ++ #[rawInt pos.line, rawInt pos.col, .ref c']).toList = ps.toList ++ [rawInt pos.line, rawInt pos.col, .ref c'] := by simp
    refine h h'.objs.size c' ((X.mg "__name__").getD .none) ctv _ _ I1 hE (fun a ha => by
        by_cases e1 : a = c'
        · rw [e1]; exact nC
        · rw [upd_ne e1] at ha
          by_cases e2 : a = P
          · rw [e2, upd_same] at ha; cases ha
          · rw [upd_ne e2] at ha; exact ha) (fun p hp => ?_) (Heap.get?_push_size _ rfl) ?_ (nofr _ hsz) upd_same
    · by_cases hb : p.1 = P
      · rw [hu p hp hb, hb]
        refine ⟨_, by rw [upd_ne (ne_of_none hP nC), upd_same], by rw [eL]; exact PySem.TriplesOk_snoc _ _ _ _ ht, fun p' cv hcv => ?_⟩
        rw [eL] at hcv
        rcases among_app _ ht hcv with z | z
        · obtain ⟨c0, e1, e2⟩ := ha p' cv z
          exact ⟨c0, e1, hE _ _ e2 codeO_ne⟩
        · exact ⟨c', z, upd_same⟩
      · obtain ⟨ps', a1, a2, a3⟩ := hT p hp
        refine ⟨ps', by rw [upd_ne (ne_of_none a1 nC), upd_ne hb]; exact a1, a2, fun p' cv hcv => ?_⟩
        obtain ⟨c0, e1, e2⟩ := a3 p' cv hcv
        exact ⟨c0, e1, hE _ _ e2 codeO_ne⟩
    · have n1 : h'.objs.size ≠ c' := Nat.ne_of_gt hlt
      have n2 : h'.objs.size ≠ P := Nat.ne_of_gt (Nat.lt_of_lt_of_le (Heap.lt_size hP') hsz)
      rw [upd_ne n1, upd_ne n2]
      exact I.hok.fresh hsz
  | some cv =>
    obtain ⟨c', e, hco⟩ := ha pos cv hc
    subst e
    refine PySem.W.kla_makeFunctionHit (mg := X.mg) (c := c) (P := P) (ps := ps) (closure_ok hfree) I.ok.glob (I.mod.glob.keeps I.bk) hcode (TB.code.keeps I.bk) hP' ht hc bP fun ctv h' tk hx hsz => ?_
    have I1 : Inv X pins σ H { s with heap := h'.push (PySem.W.kla_obj "<lambda>" (X.env.qual ++ "<lambda>") params body scope (cloFrom X.env.cells scope.names []) ((X.mg "__name__").getD .none) c' ctv), toks := tk } := I.kept fun b o e => Heap.get?_push_of_some _ (hx b o e)
    exact h h'.objs.size c' ((X.mg "__name__").getD .none) ctv H _ I1 (ExtN.refl H) (fun _ h => h) hT (Heap.get?_push_size _ rfl) (I.hok.fresh hsz) (nofr _ hsz) hco
end
section
variable {X : Cx} {pins : List (Addr × Obj)} {σ : L2.St} {H HZ : Hp} {s s1 : Shared}
/-- x(), in the def that got the lambda: Z is that def's context, entered at s -/
theorem pe_act3 {CXg : CXT} {Eg : XK} {Ng : List Str} {qg : Str} {sg : Scope} {g f c' : Addr} {cdg pm ctv : Value} {params : Arguments} {body : Expr} {scope : Scope} {k i : Nat} {a : Str} {pn : List (Addr × Obj)} {xe : Value → Shared → Prop} {W : WX} {E : XK} {tb : TE} {p1 p2 : Pos}
    (I : Inv X pins σ H s) (L : LamS X.env.scope scope) (hf : s.heap.get? f = some (PySem.W.kla_obj "<lambda>" (X.env.qual ++ "<lambda>") params body scope (cloFrom X.env.cells scope.names []) pm c' ctv)) (hfn : H f = none) (hfr : f ∉ frs X.stack)
    (hbind : bindArgs (PySem.W.kla_fn "<lambda>" (X.env.qual ++ "<lambda>") params body scope (cloFrom X.env.cells scope.names []) pm (.ref c') ctv) ⟨[], []⟩ = pure [])
    (tk : Takes ((cxOf CXg X.prog X.w X.K X.mg X.base Ng qg sg g cdg X.A X.stack s H Eg).tr pn xe) W) (hW : ∀ cls d σ' H', E cls d H' → W cls d σ' H') (hr : RoomG (k + 1) (X.A.deeper (envOfC qg sg s.heap.objs.size g cdg)))
    (hbody : ∀ (A : Around) (outer : List Env) (s : Shared) (H : Hp), RoomG k (A.deeper (lamEnv X scope s.heap.objs.size f c')) → PE (lamCx X A outer s H E scope f c') body tb)
    (hN : Ng[i]? = some a) (hv : Vis sg a) (hd : (a == ("__debug__" : Str)) = false := by decide) (hcd : (a == ("__classdict__" : Str)) = false := by decide) :
    PE ((cxOf CXg X.prog X.w X.K X.mg X.base Ng qg sg g cdg X.A X.stack s H Eg).tr pn xe) (.Call (.Name a p1) [] [] p2)
      (fun σZ HZ Q => σZ[i]? = some (some (.ref f)) ∧ HZ c' = some (CodeO c' (X.env.qual ++ "<lambda>")) ∧ tb σ HZ Q) := by
  refine ⟨fun pinsZ sZ σZ HZ Q IZ h => ?_⟩
  obtain ⟨hs, hc, ht⟩ := h
  refine wpAny_Call_Name_kw (thn ((pe_var (pos := p1) (i := i) hN hv hd hcd).run pinsZ sZ σZ HZ (fun v H1 => v = .ref f ∧ H1 = HZ) IZ ⟨.ref f, hs, rfl, rfl⟩) fun u s1 ⟨v, H1, I1, r1, q1⟩ => ?_)
  obtain ⟨ev, eH⟩ := q1
  subst ev
  rw [eH] at I1
  obtain rfl : u = Value.ref f := r1
  have of1 : s1.heap.get? f = some (PySem.W.kla_obj "<lambda>" (X.env.qual ++ "<lambda>") params body scope (cloFrom X.env.cells scope.names []) pm c' ctv) := I1.base.keep f _ hf hfn hfr (fun z => nomatch (show f ∈ ([] : List Addr) from z))
  refine PySem.W.callWith_F0 ⟨_, _, _, _, of1⟩ ?_
  have un : Un (frs X.stack) [] H HZ s.heap s1.heap := I1.base
  obtain ⟨⟨oc, vs, t, hoc, hdc, hvc⟩, _, _⟩ := I1.hok c' _ hc
  have rc : codeAny (model X.prog X.w) (X.A.deeper (envOfC qg sg s.heap.objs.size g cdg)) (.call (.ref f) ⟨[], []⟩) (CR (L2.CX X.prog X.w) (envOfC qg sg s.heap.objs.size g cdg :: X.stack) X.prog X.w HZ s1 Q E) s1 := by
    refine PySem.W.kla_callFunE hr.r.depth of1 rfl L.co L.gen rfl ⟨c', oc, vs, t, rfl, hoc, hdc, hvc⟩ ?_
    rw [hbind]
    refine wpAny_pure (wpAny_newFunctionEnv (fun y hy => (L.own y hy).2) (fun y hy => absurd hy (by simp)) (fun h₁ hns hsb => ⟨I1.nolimit.fresh _ hsb, ?_⟩) L.kind)
    show codeAny _ _ (.expr body (lamEnv X scope s1.heap.objs.size f c')) _ _
    have kp : ∀ b o, s1.heap.get? b = some o → h₁.get? b = some o := fun b o e => hsb.extBut b o (Nat.ne_of_lt (Heap.lt_size e)) (Heap.get?_push_of_some _ e)
    have J : Inv (lamCx X (X.A.deeper (envOfC qg sg s.heap.objs.size g cdg)) (envOfC qg sg s.heap.objs.size g cdg :: X.stack) s1 HZ E scope f c') [] σ HZ { s1 with heap := h₁, toks := s1.toks + ([] : List (Str × Value)).length } :=
      lam_start2 I L I1.env0 hr.r.hd un hns kp
    refine PySem.W.kla_codeExpr (wpAny_mono ((hbody _ _ s1 HZ (hr.deeper _)).run [] _ _ HZ Q J ht) (fun v s' hq => ?_) fun e s' hq => hq)
    obtain ⟨w', H', J', rv, q⟩ := hq
    exact ⟨w', H', J'.os, J'.bare, J'.base, J'.hok, rv, q⟩
  have hx : Passes (L2.CX X.prog X.w) ((cxOf CXg X.prog X.w X.K X.mg X.base Ng qg sg g cdg X.A X.stack s H Eg).tr pn xe) E := passes_call tk hW
  refine wpAny_call (codeAny_mono rc fun r s' hq => ?_)
  cases r with
  | error e => exact hx pinsZ σZ HZ s1 e s' I1 hq
  | ok fl =>
    cases fl with
    | ret u => exact I1.after hq
    | next => exact False.elim hq
    | brk => exact False.elim hq
    | cont => exact False.elim hq
end
/-! ### what the def makes of it -/
inductive Hd where
  | plain (x : Str) (q : PyData)
  | named (x f : Str) (i : Nat) (g : PyData → Option PyData)
def PQ (K : PySem.W.Frag) (H : Hp) (Q : VK) (q : PyData) : Prop := ∃ φ μ, Cells K φ H μ ∧ True ∧ Post K φ H μ (.d q) Q
def hdP (K : PySem.W.Frag) (Q : VK) : List Hd → XK
  | [] => fun _ _ _ => False
  | .plain x q :: r => fun cls d H => ∃ b, PySem.W.exmOne K cls (.ref (He.ga K x)) = some b ∧ (b = true → PQ K H Q q) ∧ (b = false → hdP K Q r cls d H)
  | .named x f i g :: r => fun cls d H => ∃ b, PySem.W.exmOne K cls (.ref (He.ga K x)) = some b ∧ (b = true → ∃ φ μ p q dd v, Cells K φ H μ ∧ cls = .ref (He.ga K x) ∧ d = some dd ∧ H dd = some (.xd [(f, v)]) ∧ Da K φ.av H p v ∧ g p = some q ∧ Post K φ H μ (.d q) Q) ∧ (b = false → hdP K Q r cls d H)
/-- what an expression gives where Z stands -/
def tZ (K : PySem.W.Frag) (Z : Ph → Hp → L2.St → Prop) (q : PyData) : TE := fun σ H Q => ∃ φ μ, Cells K φ H μ ∧ Z φ H σ ∧ Post K φ H μ (.d q) Q
def tZs (K : PySem.W.Frag) (Z : Ph → Hp → L2.St → Prop) (qs : List PyData) : TA := fun σ H Q => ∃ φ μ, Cells K φ H μ ∧ Z φ H σ ∧ ∀ φ' vs H', Grow φ φ' H H' → Cells K φ' H' μ → RVs K φ' H' (qs.map Vw.d) vs → Q vs H'
def Stb (Z : Ph → Hp → L2.St → Prop) : Prop := ∀ φ φ' H H' σ, Grow φ φ' H H' → Z φ H σ → Z φ' H' σ
def clOf (K : PySem.W.Frag) : Hd → Cl
  | .plain x q => (.ref (He.ga K x), none, fun _ _ _ D σ H => tZ K (fun _ _ _ => True) q σ H D.rt)
  | .named x f i g => (.ref (He.ga K x), some i, fun a cls d D σ H => ∃ p q, g p = some q ∧ tZ K (fun φ H σ => ErrAt K φ H σ i a cls d (He.ga K x) f p) q σ H D.rt)
theorem wMix_of {K : PySem.W.Frag} {D : Ends} {Q : VK} (hD : D.rt = Q) {n : Nat} {cls : Value} {d : Option Addr} {σ : L2.St} {H : Hp} (hn : σ.length = n) : ∀ {hs : List Hd}, (∀ h ∈ hs, match h with | .named _ _ i _ => i < n | _ => True) → hdP K Q hs cls d H → wMix K wF D (hs.map (clOf K)) cls d σ H
  | [], _, h => h
  | .plain x q :: r, hi, ⟨b, e, h1, h2⟩ => by
    refine ⟨b, e, fun hb a ha => ?_, fun hb => wMix_of hD hn (fun h hh => hi h (List.mem_cons_of_mem _ hh)) (h2 hb)⟩
    obtain ⟨φ, μ, c, _, p⟩ := h1 hb
    exact ⟨φ, μ, c, trivial, by rw [hD]; exact p⟩
  | .named x f i g :: r, hi, ⟨b, e, h1, h2⟩ => by
    refine ⟨b, e, fun hb a ha => ?_, fun hb => wMix_of hD hn (fun h hh => hi h (List.mem_cons_of_mem _ hh)) (h2 hb)⟩
    obtain ⟨φ, μ, p, q, dd, v, c, e1, e2, e3, e4, e5, k⟩ := h1 hb
    have hi1 : i < n := hi (.named x f i g) (List.mem_cons_self ..)
    exact ⟨p, q, e5, φ, μ, c, ⟨by rw [List.getElem?_set_self (by rw [hn]; exact hi1)], e1, dd, v, e2, e3, e4⟩, by show Post K φ H μ (.d q) (slotOff i D).rt; rw [show (slotOff i D).rt = Q from hD]; exact k⟩
theorem takes_len {X : Cx} {W : WX} (t : Takes X W) : Takes X (fun cls d σ H => σ.length = X.N.length → W cls d σ H) := fun u s' ⟨a, B, sI, pins, σ, H, cls, d, e, I, nb, up, sky, na, os, ag, w⟩ =>
  t u s' ⟨a, B, sI, pins, σ, H, cls, d, e, I, nb, up, sky, na, os, ag, w I.len⟩
def TTm (K : PySem.W.Frag) (hs : List Hd) (fine : PyData) : (XK → Hp → VK → Prop) → Hp → VK → Prop := fun tl H Q => tl (hdP K Q hs) H (fun _ H' => PQ K H' Q fine)
theorem PS.ex {X : Cx} {st : Stmt} {α : Type} {t : α → TS} (h : ∀ a, PS X st (t a)) : PS X st (fun D σ H => ∃ a, t a D σ H) := ⟨fun pins s σ H D I ⟨a, q⟩ => (h a).run pins s σ H D I q⟩
theorem PSs.ex {X : Cx} {st : List Stmt} {α : Type} {t : α → TS} (h : ∀ a, PSs X st (t a)) : PSs X st (fun D σ H => ∃ a, t a D σ H) := ⟨fun pins s σ H D I ⟨a, q⟩ => (h a).run pins s σ H D I q⟩
section
variable {X : Cx} {Z : Ph → Hp → L2.St → Prop} {pos : Pos} {e : Expr} {es : List Expr}
theorem tz_str (hZ : Stb Z) {s : Str} {j : Nat} : PE X (.Constant (.str s) j pos) (tZ X.K Z (.str s)) := PE.to pe_str fun σ H Q ⟨φ, μ, c, z, k⟩ => k φ _ H (.refl _ _) c rfl
theorem tz_nil : PA X [] (tZs X.K Z []) := PA.to pa_nil fun σ H Q ⟨φ, μ, c, z, k⟩ => k φ [] H (.refl _ _) c rfl
theorem tz_cons (hZ : Stb Z) {q : PyData} {qs : List PyData} (ha : PE X e (tZ X.K Z q)) (hr : PA X es (tZs X.K Z qs)) (hs : starEach (e :: es) X.env = (false, eval e X.env) :: starEach es X.env := by rfl) : PA X (e :: es) (tZs X.K Z (q :: qs)) :=
  PA.to (pa_cons ha hr hs) fun σ H Q ⟨φ, μ, c, z, k⟩ => ⟨φ, μ, c, z, fun φ1 u H1 g1 c1 r1 => ⟨φ1, μ, c1, hZ _ _ _ _ _ g1 z, fun φ2 vs H2 g2 c2 r2 => k φ2 _ H2 (g1.trans g2) c2 ⟨u, vs, rfl, RV.step g2.w (.d q) u r1, r2⟩⟩⟩
theorem rvs_all {K : PySem.W.Frag} {φ : Ph} {H : Hp} : ∀ {qs : List PyData} {vs : List V}, RVs K φ H (qs.map Vw.d) vs → DaAll K φ.av H qs vs
  | [], _, h => h
  | q :: qs, _, ⟨v, vs, e, h, hr⟩ => ⟨v, vs, e, h, rvs_all hr⟩
theorem tz_tup {qs : List PyData} {j : Nat} (h : PA X es (tZs X.K Z qs)) (hl : qs.length ≤ 1000) : PE X (.Tuple es j pos) (tZ X.K Z (.tuple qs)) := PE.to (pe_tup h) fun σ H Q ⟨φ, μ, c, z, k⟩ => ⟨φ, μ, c, z, fun φ1 vs H1 g1 c1 r1 => by
  have hd := rvs_all r1
  exact ⟨by rw [← hd.len]; exact size_ok (by omega), new_tup c1 hd fun φ2 v2 H2 g2 c2 r2 => k φ2 v2 H2 (g1.trans g2) c2 r2⟩⟩
theorem tz_repr (hg : X.A.guards = some []) (hu : X.A.units + 200 < cLine) {q : PyData} {p : Pos} (h : PE X e (tZ X.K Z q)) (ok : reprOk q = true) (hm : X.mg "repr" = none) (hgl : Gl X "repr" := by rfl)
    (he : starEach [e] X.env = (false, eval e X.env) :: starEach [] X.env := by rfl) (hpl : (backTo pos (starEach [] X.env)).any (·.1) = false := by rfl) (hZ : Stb Z) : PE X (.Call (.Name "repr" p) [e] [] pos) (tZ X.K Z (.str q.shown)) :=
  PE.to (pe_callB (call_reprD hg hu) hgl hm (by decide +kernel) (tz_cons hZ h tz_nil he) (by decide) (by decide) he hpl) fun σ H Q ⟨φ, μ, c, z, k⟩ => ⟨φ, μ, c, z, fun φ1 vs H1 g1 c1 r1 => by
    obtain ⟨v, rfl, r2⟩ := rvs1 r1
    have hp : q.plain = true := by unfold reprOk at ok; simp only [Bool.and_eq_true] at ok; exact ok.1.1.1.1
    exact ⟨v, q, rfl, Da.dp _ _ hp r2, ok, k φ1 _ H1 g1 c1 rfl⟩⟩
theorem stb_true : Stb (fun _ _ _ => True) := fun _ _ _ _ _ _ _ => trivial
theorem stb_err {K : PySem.W.Frag} {i : Nat} {a : Addr} {cls : Value} {d : Option Addr} {C : Addr} {f : Str} {p : PyData} : Stb (fun φ H σ => ErrAt K φ H σ i a cls d C f p) := fun φ φ' H H' σ g ⟨h1, h2, dd, v, h3, h4, h5⟩ =>
  ⟨h1, h2, dd, v, h3, g.ext _ _ h4 (fun _ xs z => by cases z) (fun ps z => by cases z), Da.step g.w _ _ h5⟩
theorem tz_err {a : Addr} {oe : Obj} {cls : Value} {d : Option Addr} {pn : List (Addr × Obj)} {f n x : Str} {bmB : List Value} {newId : String} {C fI : Addr} {q : PyData} {i : Nat} {p : Pos} (T : LowC X.K X.mg x f bmB newId C fI) (hz : Zc cls d oe) (hf : ∃ vs, oe.data = .fields vs)
    (hN : X.N[i]? = some n := by rfl) (hv : Vis X.env.scope n := by first | exact Or.inl rfl | exact Or.inr (Or.inl rfl) | exact Or.inr (Or.inr rfl)) (hdb : (n == ("__debug__" : Str)) = false := by decide) (hcd : (n == ("__classdict__" : Str)) = false := by decide)
    (hb : attributeBase (.Name n p) f X.env (eval (.Name n p) X.env) = eval (.Name n p) X.env := by rfl) : PE (X.suite a ((a, oe) :: pn)) (.Attribute (.Name n p) f pos) (tZ X.K (fun φ H σ => ErrAt X.K φ H σ i a cls d C f q) q) :=
  PE.to (pe_byLowG T hz hf (pe_var (X := X.suite a ((a, oe) :: pn)) hN hv hdb hcd) hb) fun σ H Q ⟨φ, μ, c, ⟨h1, h2, dd, v, h3, h4, h5⟩, k⟩ => ⟨_, h1, rfl, h2, dd, v, h3, h4, k φ v H (.refl _ _) c h5⟩
theorem tz_ret {q : PyData} (h : PE X e (tZ X.K Z q)) : PSs X [.Return (some e) pos] (fun D σ H => tZ X.K Z q σ H D.rt) := pss_one (ps_ret h)
end
end VY
end
section
set_option Elab.async false
set_option linter.all false
set_option maxRecDepth 100000
set_option maxHeartbeats 2000000
namespace VY
open PySem PySem.Spec PyProof.Rows L2 VL LamX
variable [LawTabs]
def tLamG (T : List (Addr × Str)) (TT : (XK → Hp → VK → Prop) → Hp → VK → Prop) (t : XK → TE) : TE := fun σ H Q => Tabs T H ∧ ∀ H1, ExtN H H1 → (∀ a, H1 a = none → H a = none) → Tabs T H1 → TT (fun E H' Q' => t E σ H' Q') H1 Q
section
variable {X : Cx}
/-- x(lambda: body) -/
theorem pe_lamG {T : List (Addr × Str)} {TT : (XK → Hp → VK → Prop) → Hp → VK → Prop} {x a : Str} {g c P : Addr} {k : Nat} {pg : Arguments} {bg : List Stmt} {sg : Scope} {dV kV doc pm cdv ct oc : Value} {an od : Option Addr} {osl : Array (Option Value)} {Ng : List Str}
    {params : Arguments} {body : Expr} {scope : Scope} {t : XK → TE} {p lpos pos : Pos} (hg : Gl X x) (hm : X.mg x = some (.ref g)) (hk : PySem.W.keepIn X.K (.ref g) = true)
    (lk : X.K.lookup g = some ⟨oc, od, .func (PySem.W.fnOf x x pg bg sg dV kV doc pm an cdv ct), osl⟩) (hcg : PySem.W.codeIn X.K cdv x = true) (hb : L2.Binds X.K (PySem.W.fnOf x x pg bg sg dV kV doc pm an cdv ct) [a] []) (Sg : FnScope Ng [a] sg) (hNg : Ng[0]? = some a) (hva : Vis sg a)
    (hG : GivesTo X Ng x sg g cdv bg a (X.env.qual ++ "<lambda>") TT)
    (TB : TabB X.base X.mg c P) (hcode : X.env.code = .ref c) (hmT : (P, X.env.qual ++ "<lambda>") ∈ T) (hu : ∀ p ∈ T, p.1 = P → p.2 = X.env.qual ++ "<lambda>") (hr : RoomG (k + 2) X.A) (L : LamS X.env.scope scope) (hdef : defaultsOf params X.env = ([], []))
    (hbind : ∀ (q : Str) (cl : List (Str × Addr)) (pm cv ctv : Value), bindArgs (PySem.W.kla_fn "<lambda>" q params body scope cl pm cv ctv) ⟨[], []⟩ = pure [])
    (hbody : ∀ (A : Around) (outer : List Env) (s : Shared) (H : Hp) (E : XK) (f c' : Addr), RoomG k (A.deeper (lamEnv X scope s.heap.objs.size f c')) → PE (lamCx X A outer s H E scope f c') body (t E))
    (hdb : (x == ("__debug__" : Str)) = false := by decide) (hd : (a == ("__debug__" : Str)) = false := by decide) (hcd : (a == ("__classdict__" : Str)) = false := by decide) :
    PE X (.Call (.Name x p) [.Lambda params body scope lpos] [] pos) (tLamG T TT t) := by
  refine ⟨fun pins s σ H Q I h => ?_⟩
  obtain ⟨hT, h⟩ := h
  refine wpAny_Call_Name_kw (ld_glob I hg hm ?_ hdb)
  refine PySem.W.callWith_K (h₀ := X.base) I.ok.mod.kin hk ?_ (by rfl) (by rfl)
  show wpAny _ _ (spliced ((false, eval (.Lambda params body scope lpos) X.env) :: backTo pos (starEach [] X.env))) _ _ s
  refine Calls.spliced_cons (lam_make3 I TB hcode hmT hu hT hdef (L.has I.ok) fun f c' pm' ctv H1 s' I1 eN lv T1 hf hfn hfr hco => ?_)
  refine Calls.spliced_nil ⟨I1.kIn, ?_⟩
  have rc : codeAny (model X.prog X.w) X.A (.call (.ref g) ⟨[.ref f], []⟩) (CR C8.CX0 X.stack X.prog X.w H1 s' Q C8.E0) s' := by
    refine run_ofS (N := Ng) (ps := [a]) (us := [.ref f]) (vs := [.ref f]) lk hcg Sg hr.r I1.env0 (hb s' [.ref f] I1.kIn rfl) (.cons rfl .nil) rfl fun _ => ?_
    obtain ⟨t', ht', hq'⟩ := hG f c' s' H1 Q (fun E H' Q' => t E σ H' Q') (fun W pn xe E p1 p2 tk hW => pe_act3 (i := 0) I1 L hf hfn hfr (hbind _ _ _ _ _) tk hW (hr.deeper _) (fun A outer s H hr2 => hbody A outer s H E f c' hr2) hNg hva hd hcd) hco (h H1 eN lv T1)
    exact ⟨t', ht'.nox, hq'⟩
  refine wpAny_call (codeAny_mono rc fun r s2 hq => ?_)
  cases r with
  | error e => exact (show False from hq).elim
  | ok fl =>
    cases fl with
    | ret u => exact I1.after hq
    | next => exact False.elim hq
    | brk => exact False.elim hq
    | cont => exact False.elim hq

theorem met_gives {Ng : List Str} {x a q : Str} {sg : Scope} {g : Addr} {cdg : Value} {hs : List Hd} {fine : PyData} {h0 : ExceptHandler} {hds : List ExceptHandler} {fe : Expr} {p1 p2 p3 p8 p9 : Pos} (hNd : Ng.Nodup) (hi : ∀ h ∈ hs, match h with | .named _ _ i _ => i < Ng.length | _ => True) (hst : ∀ f : Addr, (L2.start Ng [V.ref f])[0]? = some (some (V.ref f)))
    (hmix : ∀ (s : Shared) (H : Hp), MixOk (cxOf C8.CX0 X.prog X.w X.K X.mg X.base Ng x sg g cdg X.A X.stack s H C8.E0).nox (h0 :: hds) (hs.map (clOf X.K)))
    (hfine : ∀ (s : Shared) (H : Hp), PE (cxOf C8.CX0 X.prog X.w X.K X.mg X.base Ng x sg g cdg X.A X.stack s H C8.E0).nox fe (tZ X.K (fun _ _ _ => True) fine)) :
    GivesTo X Ng x sg g cdg [.Try [.Expr (.Call (.Name a p1) [] [] p2) p3] (h0 :: hds) [] [] p8, .Return (some fe) p9] a q (TTm X.K hs fine) := by
  intro f c' s H Q tl act hc h
  refine ⟨_, pss_cons (ps_try_mix (X := (cxOf C8.CX0 X.prog X.w X.K X.mg X.base Ng x sg g cdg X.A X.stack s H C8.E0).nox) (Wo := wF)
      (tb := fun W D σ H => ∃ Ech : XK, (∀ cls d σ' H', Ech cls d H' → σ'.length = Ng.length → W cls d σ' H') ∧ σ[0]? = some (some (.ref f)) ∧ H c' = some (CodeO c' q) ∧ tl Ech H (fun _ H' => D.nx σ H'))
      rfl rfl hNd takes0 (fun W pn xe tk _ => ?_) (hmix s H)) (pss_one (ps_ret (hfine s H))), ?_⟩
  · refine ⟨fun pins s' σ H' D I h' => ?_⟩
    obtain ⟨Ech, hW, h1, h2, h3⟩ := h'
    have hp := act _ pn xe Ech p1 p2 (takes_len tk) hW
    have hq := pss_one (ps_expr (pos := p3) hp rfl)
    exact hq.run pins s' σ H' D I ⟨h1, h2, h3⟩
  · exact ⟨hdP X.K Q hs, fun cls d σ' H' e hl => wMix_of rfl hl hi e, hst f, hc, h⟩
def xcN : Xc → Str
  | .own x => x
  | .low x _ _ => x
def hdM : List Hd → Xc → Option PyData
  | [], _ => none
  | .plain x q :: r, e => if xcN e = x then some q else hdM r e
  | .named x f _ g :: r, e => if xcN e = x then (match e with
    | .low _ f' p => if f' = f then g p else none
    | .own _ => none) else hdM r e
@[simp] def xMet (CL : List Str) (hs : List Hd) (fine : PyData) (b : EX) (ρ : Rho) (μ : Mu) : RM Vw := match b ρ μ with
  | some (.ok _ μ1) => some (.ok (.d fine) μ1)
  | some (.ex e μ1) => if xcN e ∈ CL then lf ((hdM hs e).map Vw.d) μ1 else none
  | none => none
def Hd.cls : Hd → Str
  | .plain x _ => x
  | .named x _ _ _ => x
theorem hd_own {K : PySem.W.Frag} {Q : VK} {φ : Ph} {H : Hp} {μ : Mu} {y : Str} {q : PyData} (c : Cells K φ H μ) (k : Post K φ H μ (.d q) Q) : ∀ {hs : List Hd}, (∀ h ∈ hs, PySem.W.exmOne K (.ref (He.ga K y)) (.ref (He.ga K h.cls)) = some (decide (y = h.cls))) → hdM hs (.own y) = some q → hdP K Q hs (.ref (He.ga K y)) none H
  | [], _, e => by cases e
  | .plain x q' :: r, hx, e => by
    unfold hdM at e
    refine ⟨_, hx _ (List.mem_cons_self ..), fun hb => ?_, fun hb => ?_⟩
    · rw [if_pos (show xcN (.own y) = x from of_decide_eq_true hb)] at e
      cases e
      exact ⟨φ, μ, c, trivial, k⟩
    · rw [if_neg (show ¬ xcN (.own y) = x from of_decide_eq_false hb)] at e
      exact hd_own c k (fun h hh => hx h (List.mem_cons_of_mem _ hh)) e
  | .named x f i g :: r, hx, e => by
    unfold hdM at e
    refine ⟨_, hx _ (List.mem_cons_self ..), fun hb => ?_, fun hb => ?_⟩
    · rw [if_pos (show xcN (.own y) = x from of_decide_eq_true hb)] at e
      cases e
    · rw [if_neg (show ¬ xcN (.own y) = x from of_decide_eq_false hb)] at e
      exact hd_own c k (fun h hh => hx h (List.mem_cons_of_mem _ hh)) e
theorem hd_low {K : PySem.W.Frag} {Q : VK} {φ : Ph} {H : Hp} {μ : Mu} {y f : Str} {p q : PyData} {d : Addr} {v : V} (c : Cells K φ H μ) (hd : H d = some (.xd [(f, v)])) (hv : Da K φ.av H p v) (k : Post K φ H μ (.d q) Q) : ∀ {hs : List Hd}, (∀ h ∈ hs, PySem.W.exmOne K (.ref (He.ga K y)) (.ref (He.ga K h.cls)) = some (decide (y = h.cls))) → hdM hs (.low y f p) = some q → hdP K Q hs (.ref (He.ga K y)) (some d) H
  | [], _, e => by cases e
  | .plain x q' :: r, hx, e => by
    unfold hdM at e
    refine ⟨_, hx _ (List.mem_cons_self ..), fun hb => ?_, fun hb => ?_⟩
    · rw [if_pos (show xcN (.low y f p) = x from of_decide_eq_true hb)] at e
      cases e
      exact ⟨φ, μ, c, trivial, k⟩
    · rw [if_neg (show ¬ xcN (.low y f p) = x from of_decide_eq_false hb)] at e
      exact hd_low c hd hv k (fun h hh => hx h (List.mem_cons_of_mem _ hh)) e
  | .named x f' i g :: r, hx, e => by
    unfold hdM at e
    refine ⟨_, hx _ (List.mem_cons_self ..), fun hb => ?_, fun hb => ?_⟩
    · have hy : y = x := of_decide_eq_true hb
      rw [if_pos (show xcN (.low y f p) = x from hy)] at e
      simp only at e
      split at e
      · rename_i hf
        subst hf hy
        exact ⟨φ, μ, p, q, d, v, c, rfl, rfl, hd, hv, e, k⟩
      · cases e
    · rw [if_neg (show ¬ xcN (.low y f p) = x from of_decide_eq_false hb)] at e
      exact hd_low c hd hv k (fun h hh => hx h (List.mem_cons_of_mem _ hh)) e
theorem Cells.extN {K : PySem.W.Frag} {φ : Ph} {H H1 : Hp} {μ : Mu} (c : Cells K φ H μ) (eN : ExtN H H1) (lv : ∀ a, H1 a = none → H a = none) (T1 : Tabs (LawTabs.T K) H1) : Grow φ φ H H1 ∧ Cells K φ H1 μ := by
  have g : Grow φ φ H H1 := ⟨⟨[], by simp, by simp⟩, ⟨[], by simp, by simp⟩, fun a o h _ nt => eN a o h nt, lv⟩
  refine ⟨g, c.nd, c.len, fun n a ds h1 h2 => ?_, fun a ha z => c.tr a ha (lv a z), T1⟩
  obtain ⟨xs, h, hs⟩ := c.at_ n a ds h1 h2
  exact ⟨xs, eN _ _ h (fun ps z => by cases z), DaAll.step g.w _ _ hs⟩
/-- the def that calls what it gets, as it stands behind the top -/
structure MetD (K : PySem.W.Frag) (mg : Str → Option Value) (x a : Str) (Ng : List Str) (sg : Scope) (bg : List Stmt) (g : Addr) (cdv : Value) : Prop where
  mg_ : mg x = some (.ref g)
  kp : PySem.W.keepIn K (.ref g) = true
  lk : ∃ (pg : Arguments) (dV kV doc pm ct oc : Value) (an od : Option Addr) (osl : Array (Option Value)), K.lookup g = some ⟨oc, od, .func (PySem.W.fnOf x x pg bg sg dV kV doc pm an cdv ct), osl⟩ ∧ L2.Binds K (PySem.W.fnOf x x pg bg sg dV kV doc pm an cdv ct) [a] []
  cd : PySem.W.codeIn K cdv x = true
  S : FnScope Ng [a] sg
variable {W : WX}
theorem yj_met {CL : List Str} {hs : List Hd} {fine : PyData} {b : EX} {Ng : List Str} {x a : Str} {g c P : Addr} {k : Nat} {sg : Scope} {bg : List Stmt} {cdv : Value} {params : Arguments} {body : Expr} {scope : Scope} {p lpos pos : Pos} (M : MetD X.K X.mg x a Ng sg bg g cdv) (hNg : Ng[0]? = some a) (hva : Vis sg a)
    (hG : GivesTo X Ng x sg g cdv bg a (X.env.qual ++ "<lambda>") (TTm X.K hs fine)) (hx : ∀ y ∈ CL, ∀ h ∈ hs, PySem.W.exmOne X.K (.ref (He.ga X.K y)) (.ref (He.ga X.K h.cls)) = some (decide (y = h.cls)))
    (TB : TabB X.base X.mg c P) (hcode : X.env.code = .ref c) (hmT : (P, X.env.qual ++ "<lambda>") ∈ LawTabs.T X.K) (hu : ∀ p ∈ LawTabs.T X.K, p.1 = P → p.2 = X.env.qual ++ "<lambda>") (hr : RoomG (k + 2) X.A) (L : LamS X.env.scope scope) (hdef : defaultsOf params X.env = ([], []))
    (hbind : ∀ (q : Str) (cl : List (Str × Addr)) (pm cv ctv : Value), bindArgs (PySem.W.kla_fn "<lambda>" q params body scope cl pm cv ctv) ⟨[], []⟩ = pure [])
    (hbody : ∀ (A : Around) (outer : List Env) (s : Shared) (H : Hp) (E : XK) (f c' : Addr), RoomG k (A.deeper (lamEnv X scope s.heap.objs.size f c')) → PE (lamCx X A outer s H E scope f c') body (tX X.K (wf E) b))
    (hg : Gl X x := by rfl) (hdb : (x == ("__debug__" : Str)) = false := by decide) (hd : (a == ("__debug__" : Str)) = false := by decide) (hcd : (a == ("__classdict__" : Str)) = false := by decide) :
    PE X (.Call (.Name x p) [.Lambda params body scope lpos] [] pos) (tX X.K W (xMet CL hs fine b)) := by
  obtain ⟨pg, dV, kV, doc, pm, ct, oc, an, od, osl, lk, hb⟩ := M.lk
  refine PE.to (pe_lamG (t := fun E => tX X.K (wf E) b) hg M.mg_ M.kp lk M.cd hb M.S hNg hva hG TB hcode hmT hu hr L hdef hbind hbody hdb hd hcd) fun σ H Q ⟨φ, ρ, μ, rs, kk⟩ => ⟨rs.c.tb, fun H1 eN lv T1 => ?_⟩
  obtain ⟨g1, c1⟩ := Cells.extN rs.c eN lv T1
  refine ⟨φ, ρ, μ, rs.step g1.w c1, ?_⟩
  unfold xMet at kk
  cases e : b ρ μ with
  | none => rw [e] at kk; exact kk
  | some r =>
    rw [e] at kk
    cases r with
    | ok w μ1 => exact fun φ2 v H2 g2 c2 r2 => ⟨φ2, μ1, c2, trivial, fun φ3 v3 H3 g3 c3 r3 => kk φ3 v3 H3 ((g1.trans g2).trans g3) c3 r3⟩
    | ex y μ1 =>
      simp only at kk
      split at kk
      · rename_i hy
        obtain ⟨w, e2, k2⟩ := RsP.lf kk
        obtain ⟨q, e3, rfl⟩ := Option.map_eq_some_iff.mp e2
        cases y with
        | own y => exact fun φ2 H2 g2 c2 => hd_own c2 (fun φ3 v3 H3 g3 c3 r3 => k2 φ3 v3 H3 ((g1.trans g2).trans g3) c3 r3) (hx y hy) e3
        | low y f p => exact fun φ2 H2 d v g2 c2 hdd hv => hd_low c2 hdd hv (fun φ3 v3 H3 g3 c3 r3 => k2 φ3 v3 H3 ((g1.trans g2).trans g3) c3 r3) (hx y hy) e3
      · exact kk.elim
end
end VY
end
section
set_option Elab.async false
set_option linter.all false
set_option maxRecDepth 100000
set_option maxHeartbeats 2000000
namespace VY
open PySem PySem.Spec PyProof.Rows L2 LamX
variable [VL.LawTabs]
/-- law_call with tables: cs, the code objects and their tables -/
theorem law_callG {P : Program} {w : World} {K : PySem.W.Frag} {mg mb : Str → Option Value} {k : Nat} {fa a : Addr} {cs : List (Addr × Addr)} {fd : FuncData} {x : Str} {sp : Sp} {s₁ : Shared} {vs : List Value} {ns : List Int}
    (KX : K.In s₁.heap) (hns : s₁.heap.Ns mainGlobals mg) (hb : s₁.heap.Ns builtinsNs mb) (hbb : ∀ x : Str, x ≠ "__name__" → mb x = bootBuiltins x) (hlim : s₁.heap.NoLimit) (hg : s₁.gens = #[])
    (hT : ∀ p ∈ cs, s₁.heap.get? p.2 = some { cls := .none, data := .fields #[] }) (nT : ∀ p ∈ cs, K.lookup p.2 = none) (C : ∀ p ∈ cs, PySem.W.CodeHd s₁.heap p.1 p.2)
    (hbm : ∃ (bm : Addr) (ob : Obj), mg "__builtins__" = some (.ref bm) ∧ bm ≠ builtinsNs ∧ s₁.heap.get? bm = some ob ∧ ob.cls = .type "module" ∧ ob.dict = some builtinsNs ∧ ob.data = .plain)
    (ha : s₁.heap.get? a = some { cls := .type "list", data := .seq vs.toArray }) (hi : IntsAre vs ns) (hl : ns.length ≤ sizeLine) (hr : RoomG k callerA)
    (F : ∀ base : Heap, K.In base → base.Ns mainGlobals mg → (∀ p ∈ cs, TabB base mg p.1 p.2) → FnG P w K mg base k fa fd [x] sp) (hbind : ∀ (s : Shared) (u : Value), BindsTo s fd ⟨[u], []⟩ [(x, u)])
    (hsp : ∀ H : Hp, (∀ p ∈ cs, H p.2 = some (.tbl #[])) → SqL K H a (ns.map V.int) → sp [.ref a] H (fun v _ => v = .bl true) fun _ _ _ => False)
    (hCX : ∀ H e s', L2.CX P w [] H s₁ (fun _ _ _ => False) e s' → False) :
    codeAny (model P w) callerA (.call (.ref fa) ⟨[.ref a], []⟩) (fun r s' => r = .ok (.ret (.bool true)) ∧ OldK s₁.heap s'.heap ∧ s'.os = s₁.os ∧ AllBare s'.gens) s₁ := by
  have rv := vals_ints hi
  have lenV := hi.length
  have isT : ∀ b : Addr, b ∈ cs.map (·.2) → s₁.heap.get? b = some { cls := .none, data := .fields #[] } := fun b hb => by
    obtain ⟨p, hp, e⟩ := List.mem_map.mp hb
    rw [← e]
    exact hT p hp
  have aT : a ∉ cs.map (·.2) := fun z => by
    have q := isT a z
    rw [ha] at q
    have z' : Data.seq vs.toArray _ = Data.fields #[] := congrArg Obj.data (Option.some.inj q)
    cases z'
  have memT : ∀ p ∈ cs, p.2 ∈ cs.map (·.2) := fun p hp => List.mem_map.mpr ⟨p, hp, rfl⟩
  -- from an abstract heap in which nothing but the script and the tables may be tracked
  have core : ∀ H : Hp, (∀ p ∈ cs, H p.2 = some (.tbl #[])) → (∀ b, H b = none ∨ b ∈ cs.map (·.2) ∨ ∃ o xs, H b = some (.frz o (.lst xs))) → SqL K H a (ns.map V.int) → HOk P w H s₁.heap → (∀ b, H b ≠ none → b = a ∨ b ∈ cs.map (·.2)) → (H a ≠ none → K.lookup a = none) →
      codeAny (model P w) callerA (.call (.ref fa) ⟨[.ref a], []⟩) (fun r s' => r = .ok (.ret (.bool true)) ∧ OldK s₁.heap s'.heap ∧ s'.os = s₁.os ∧ AllBare s'.gens) s₁ := by
    intro H hH hO hS hok hA hK
    have base_of : ∀ {b : Addr} {o : Obj}, s₁.heap.get? b = some o → H b = none → (hidT s₁.heap H).get? b = some o := fun e n => hidT_get e n
    have noD : ∀ {b : Addr} {o : Obj}, s₁.heap.get? b = some o → (∀ vs n, o.data ≠ .seq vs n) → o.data ≠ .fields #[] → H b = none := fun {b o} e h1 h2 => by
      cases q : H b with
      | none => rfl
      | some u =>
        rcases hA b (by rw [q]; simp) with e' | e'
        · rw [e', ha] at e
          cases e
          exact (h1 _ _ rfl).elim
        · rw [isT b e'] at e
          cases e
          exact (h2 rfl).elim
    have noA : ∀ {b : Addr} {o : Obj} {es : Array DictEntry} {ep : Nat}, s₁.heap.get? b = some o → o.data = .dict es ep → H b = none := fun {b o es ep} e d => by
      refine noD e (fun vs n z => ?_) fun z => ?_
      · rw [d] at z
        cases z
      · rw [d] at z
        cases z
    have nsK : ∀ {b : Addr} {m : Str → Option Value}, s₁.heap.Ns b m → (hidT s₁.heap H).Ns b m := fun {b m} ⟨o, es, ep, e, d, r⟩ => ⟨o, es, ep, base_of e (noA e d), d, r⟩
    have hKb : K.In (hidT s₁.heap H) := fun b o e => base_of (KX b o e) (by
      cases q : H b with
      | none => rfl
      | some u =>
        rcases hA b (by rw [q]; simp) with e' | e'
        · rw [e'] at e q
          rw [hK (by rw [q]; simp)] at e
          cases e
        · obtain ⟨p, hp, ep⟩ := List.mem_map.mp e'
          rw [← ep, nT p hp] at e
          cases e)
    have hM : L2.Mod K mg (hidT s₁.heap H) := ⟨hKb, nsK hns, ⟨mb, nsK hb, hbb⟩, let ⟨mc, h1, h2⟩ := hlim; ⟨mc, nsK h1, h2⟩⟩
    have TB : ∀ p ∈ cs, TabB (hidT s₁.heap H) mg p.1 p.2 := fun p hp => by
      have hTp := hT p hp
      refine ⟨?_, ?_, fun z => ?_⟩
      · obtain ⟨o, us, file, tf, flags, tg, inF, text, tt, e1, r1, r2, r3, r4, r5, r6, r7, r8, hne⟩ := C p hp
        refine ⟨o, us, file, tf, flags, tg, inF, text, tt, base_of e1 (noD e1 (fun vs n z => ?_) fun z => ?_), r1, r2, r3, r4, r5, r6, r7, r8, hne⟩
        · rw [r2] at z
          cases z
        · rw [r2] at z
          cases z
          simp at r3
      · obtain ⟨bm, ob, b1, b2, b3, b4, b5, b6⟩ := hbm
        have nG : bm ≠ mainGlobals := fun q => by
          obtain ⟨o, es, ep, e, hd, _⟩ := hns
          rw [q, e] at b3
          cases b3
          rw [hd] at b6
          cases b6
        have nP : bm ≠ p.2 := fun q => by
          rw [q, hTp] at b3
          cases b3
          cases b6
        refine ⟨bm, ob, b1, b2, nG, nP, base_of b3 (noD b3 (fun vs n z => ?_) fun z => ?_), b4, b5, b6⟩
        · rw [b6] at z
          cases z
        · rw [b6] at z
          cases z
      · obtain ⟨o, es, ep, e, hd, _⟩ := hns
        rw [z, hTp] at e
        cases e
        cases hd
    have e0 : Env0 P w K mg (hidT s₁.heap H) callerA [] s₁ H := ⟨rfl, hM, fun b o e => of_hidT e, Nat.le_of_eq (hidT_size _ _), trivial, fun b hb => absurd (show b ∈ ([] : List Addr) from hb) (by simp), hok, .of_eq hg⟩
    refine codeAny_mono ((F _ hKb (nsK hns) TB).run callerA [] s₁ H ⟨[.ref a], []⟩ [.ref a] [.ref a] _ _ hr e0 (hbind s₁ (.ref a)) (.cons rfl .nil) (hsp H hH hS)) fun r s' h => ?_
    cases r with
    | error e => exact (hCX H e s' h).elim
    | ok fl =>
      cases fl with
      | next => exact False.elim h
      | brk => exact False.elim h
      | cont => exact False.elim h
      | ret u =>
        obtain ⟨v, H', os, bare, un, hok', r', q⟩ := h
        have q' : v = .bl true := q
        subst q'
        obtain rfl : u = Value.bool true := r'
        have key : ∀ b o, b ∉ cs.map (·.2) → s₁.heap.get? b = some o → s'.heap.get? b = some o := fun b o nb e => by
          cases q : H b with
          | none => exact un.keep b o e q (by intro z; exact absurd (show b ∈ ([] : List Addr) from z) (by simp)) (by simp)
          | some u =>
            rcases hO b with z | z | ⟨ob, xs, z⟩
            · rw [q] at z; cases z
            · exact absurd z nb
            · have z2 := un.frzs b ob _ z
              obtain ⟨e1, _⟩ := hok b _ z
              obtain ⟨e2, _⟩ := hok' b _ z2
              rw [e] at e1; cases e1
              exact e2
        have grown : ∀ p ∈ cs, ∃ more : Array Value, s'.heap.get? p.2 = some { cls := .none, data := .fields more } := fun p hp => by
          obtain ⟨more, z⟩ := un.tbls p.2 #[] (hH p hp)
          exact ⟨_, hok' p.2 _ z⟩
        refine ⟨rfl, ⟨fun b o e => ?_, fun b o e => ?_⟩, os, bare⟩
        · by_cases hb : b ∈ cs.map (·.2)
          · obtain ⟨p, hp, ep⟩ := List.mem_map.mp hb
            obtain ⟨more, hm⟩ := grown p hp
            rw [← ep] at e ⊢
            rw [hT p hp] at e
            cases e
            exact .inr (.inl ⟨((C p hp).tab (hT p hp)).isCodeTable, rfl, #[], more, rfl, by rw [Array.empty_append]; exact hm⟩)
          · exact .inl (key b o hb e)
        · by_cases hb : b ∈ cs.map (·.2)
          · obtain ⟨p, hp, ep⟩ := List.mem_map.mp hb
            obtain ⟨more, hm⟩ := grown p hp
            rw [← ep]
            exact ⟨_, hm⟩
          · exact ⟨o, key b o hb e⟩
  cases hk : K.lookup a with
  | some o =>
    have e := KX a o hk
    rw [ha] at e
    cases e
    refine core (fun b => if b ∈ cs.map (·.2) then some (.tbl #[]) else none) (fun p hp => if_pos (memT p hp)) (fun b => ?_) (.inr ⟨_, vs.toArray, _, hk, rfl, rfl, rfl, by rw [List.size_toArray, lenV]; exact hl, by simpa using rv⟩) (fun b u z => ?_) (fun b z => ?_) fun z => absurd (show (if a ∈ cs.map (·.2) then some (HO.tbl #[]) else none) = none from if_neg aT) z
    · by_cases hb : b ∈ cs.map (·.2)
      · exact .inr (.inl hb)
      · exact .inl (if_neg hb)
    · by_cases hb : b ∈ cs.map (·.2)
      · have z' := (if_pos hb).symm.trans z
        cases z'
        exact isT b hb
      · have z' := (if_neg hb).symm.trans z
        cases z'
    · by_cases hb : b ∈ cs.map (·.2)
      · exact .inr hb
      · exact absurd (if_neg hb) z
  | none =>
    refine core (fun b => if b = a then some (.frz { cls := .type "list", data := .seq vs.toArray } (.lst (ns.map V.int))) else if b ∈ cs.map (·.2) then some (.tbl #[]) else none) (fun p hp => (if_neg (show ¬ p.2 = a from fun z => aT (by rw [← z]; exact memT p hp))).trans (if_pos (memT p hp))) (fun b => ?_)
      (.inl (.inr ⟨{ cls := .type "list", data := .seq vs.toArray }, if_pos rfl⟩)) (fun b u z => ?_) (fun b z => ?_) fun _ => hk
    · by_cases hb : b = a
      · exact .inr (.inr ⟨_, _, if_pos hb⟩)
      · by_cases hb2 : b ∈ cs.map (·.2)
        · exact .inr (.inl hb2)
        · exact .inl ((if_neg hb).trans (if_neg hb2))
    · by_cases hb : b = a
      · have z' := (if_pos hb).symm.trans z
        cases z'
        rw [hb]
        exact ⟨ha, by rw [List.length_map]; exact hl, vs, _, rv, ha⟩
      · have z1 := (if_neg hb).symm.trans z
        by_cases hb2 : b ∈ cs.map (·.2)
        · have z' := (if_pos hb2).symm.trans z1
          cases z'
          exact isT b hb2
        · have z' := (if_neg hb2).symm.trans z1
          cases z'
    · by_cases hb : b = a
      · exact .inl hb
      · by_cases hb2 : b ∈ cs.map (·.2)
        · exact .inr hb2
        · exact absurd ((if_neg hb).trans (if_neg hb2)) z

def LawAtG (l : PySem.W.OpenLaw) (w : World) (K : PySem.W.Frag) (k n : Nat) (x : Str) (mg : Str → Option Value) (fa : Addr) (h : Heap) : Prop :=
  ∃ (fd : FuncData) (cs : List (Addr × Addr)) (sp : Sp), (∀ p ∈ cs, h.get? p.2 = some { cls := .none, data := .fields #[] }) ∧ (∀ p ∈ cs, K.lookup p.2 = none) ∧ (∀ p ∈ cs, PySem.W.CodeHd h p.1 p.2) ∧ (∀ (s : Shared) (u : Value), BindsTo s fd ⟨[u], []⟩ [(x, u)]) ∧
    (∀ (H : Hp) (a : Addr) (ns : List Int), ns.length ≤ n → (∀ z ∈ ns, Builtin.Int.intBits z ≤ 1048576) → (∀ p ∈ cs, H p.2 = some (.tbl #[])) → SqL K H a (ns.map V.int) → sp [.ref a] H (fun v _ => v = .bl true) fun _ _ _ => False) ∧
    ∀ base : Heap, K.In base → base.Ns mainGlobals mg → (∀ p ∈ cs, TabB base mg p.1 p.2) → FnG l.prog w K mg base k fa fd [x] sp
theorem walk_ofG {l : PySem.W.OpenLaw} {n k : Nat} {q : Program} {loose : List Str} {XP : (Str → Option Value) → Heap → Prop} {YP : World → Heap → Prop} {d : DefRec} {x : Str}
    (hn : l.most = some n) (hn2 : n ≤ sizeLine) (hdf : d.params.defaults = []) (hr : RoomG k callerA)
    (F : ∀ (w : World) (mg : Str → Option Value) (fa : Addr) (h : Heap), YP w h → h.Ns mainGlobals mg → mg d.name = some (.ref fa) → ∃ K : PySem.W.Frag, K.In h ∧ LawAtG l w K k n x mg fa h)
    (hCX : ∀ (w : World) (H : Hp) (s : Shared) (e : Value) (s' : Shared), L2.CX l.prog w [] H s (fun _ _ _ => False) e s' → False) :
    PySem.W.WalkO q loose XP YP l.row.toRowW d [] (fun f vs => PySem.call f vs) := by
  refine Att.attach_callB hn hdf fun w s₀ s₁ mg mb fa o pm cd doc a vs ns G Y ho hd hcd hmg hobj hints hlen hbits hg => ?_
  obtain ⟨K, KX, fd, cs, sp, hT, nT, C, hb, hsp, hF⟩ := F w mg fa _ Y G.T.g hmg
  exact law_callG KX G.T.g G.T.b G.T.builtins G.T.nolimit hg hT nT C G.T.bmain hobj hints (Nat.le_trans hlen hn2) hr hF hb (fun H hH hS => hsp H a ns hlen hbits hH hS) fun H e s' => hCX w H s₁ e s'
theorem noCX {P : Program} {w : World} {H : Hp} {s : Shared} {e : Value} {s' : Shared} (h : L2.CX P w [] H s (fun _ _ _ => False) e s') : False := by
  obtain ⟨a, B, H', cls, d, e1, h1, h2, h3, h4, h5, h6, z⟩ := h
  exact z
open VL in
theorem law_startG {K : PySem.W.Frag} {m : YM} {H : Hp} {a : Addr} {ns : List Int} {μ' : Mu} (hT : LamX.Tabs (LawTabs.T K) H) (hS : SqL K H a (ns.map V.int)) (e : m [] [.kl ns] = some (.ok (.d (.bool true)) μ')) : spY K 1 m [.ref a] H (fun v _ => v = .bl true) fun _ _ _ => False := by
  refine ⟨([], []), [], [.kl ns], ⟨List.nodup_nil, rfl, fun n a ds h _ => by simp at h, (fun a h => by cases h), hT⟩, ⟨.ref a, [], rfl, ⟨a, rfl, ?_⟩, rfl⟩, rfl, ?_⟩
  · rcases hS with (h | ⟨o, h⟩) | h
    · exact .inr (.inl ⟨by simp [Ph.av], h⟩)
    · exact .inl ⟨o, h⟩
    · exact .inr (.inr h)
  · rw [e]; exact fun φ' v H' g c r => r
end VY
end
section
set_option Elab.async false
set_option linter.all false
set_option maxRecDepth 100000
/-! comprehensions, ranges, computed out -/
namespace VY
open PySem PySem.Spec PyProof.Rows L2 VL
variable [LawTabs]
theorem ySt_asg {f : EF} {t : TF} : ySt (sAsg f t) = yAsg (up f) t := by
  funext ρ μ
  unfold ySt sAsg yAsg up
  cases f ρ μ with
  | none => rfl
  | some r =>
    simp only [bd]
    cases t r.1 ρ <;> rfl
theorem upAsg {X : Cx} {W : WX} {st : Stmt} {f : EF} {t : TF} (h : PS X st (tS X.K (sAsg f t))) : PS X st (tXS X.K W (yAsg (up f) t)) := by rw [← ySt_asg]; exact upS h
theorem upLc {X : Cx} {W : WX} {e : Expr} {fi : IF} {t : TF} {tt : BF} {fe : EF} {vs : List Nat} (h : PE X e (tE X.K (eLc fi t tt fe vs))) : PE X e (tX X.K W (up (VC.eLc fi t tt fe vs))) := by rw [VC.eLc_eq] at h; exact upE h
theorem upLc2 {X : Cx} {W : WX} {e : Expr} {fi fi1 : IF} {t t1 : TF} {tt tt1 : BF} {fe : EF} {vs vs1 : List Nat} (h : PE X e (tE X.K (eLc2 fi t tt fi1 t1 tt1 fe vs vs1))) : PE X e (tX X.K W (up (VC.eLc2 fi t tt fi1 t1 tt1 fe vs vs1))) := by rw [VC.eLc2_eq] at h; exact upE h
theorem upSLc {X : Cx} {W : WX} {st : Stmt} {fi : IF} {t t' : TF} {tt : BF} {fe : EF} {vs : List Nat} (h : PS X st (tS X.K (sAsg (eLc fi t tt fe vs) t'))) : PS X st (tXS X.K W (yAsg (up (VC.eLc fi t tt fe vs)) t')) := by rw [VC.eLc_eq] at h; exact upAsg h
theorem upSLc2 {X : Cx} {W : WX} {st : Stmt} {fi fi1 : IF} {t t1 t' : TF} {tt tt1 : BF} {fe : EF} {vs vs1 : List Nat} (h : PS X st (tS X.K (sAsg (eLc2 fi t tt fi1 t1 tt1 fe vs vs1) t'))) : PS X st (tXS X.K W (yAsg (up (VC.eLc2 fi t tt fi1 t1 tt1 fe vs vs1)) t')) := by rw [VC.eLc2_eq] at h; exact upAsg h
noncomputable def eLcC (fi : IF) (t : TF) (tt : BF) (fe : EF) (vs : List Nat) (ρ : Rho) (μ : Mu) : Option (Vw × Mu) := match fi ρ μ with
  | some (ds, src, μ1) => (match VC.lcM t tt fe src ds ds (wipeR ρ vs) μ1 with
    | some (ps, μ2) => if ps.length ≤ 1000000 then some (.loc μ2.length, μ2 ++ [ps]) else none
    | none => none)
  | none => none
theorem eLcC_eq {fi : IF} {t : TF} {tt : BF} {fe : EF} {vs : List Nat} : VL.eLcC fi t tt fe vs = eLcC fi t tt fe vs := by
  funext ρ μ
  unfold VL.eLcC eLcC
  cases e : fi ρ μ with
  | none => rfl
  | some r => dsimp only; rw [VC.lcM_eq] <;> rfl
theorem upLcC {X : Cx} {W : WX} {e : Expr} {fi : IF} {t : TF} {tt : BF} {fe : EF} {vs : List Nat} (h : PE X e (tE X.K (VL.eLcC fi t tt fe vs))) : PE X e (tX X.K W (up (eLcC fi t tt fe vs))) := by rw [eLcC_eq] at h; exact upE h
theorem upSLcC {X : Cx} {W : WX} {st : Stmt} {fi : IF} {t t' : TF} {tt : BF} {fe : EF} {vs : List Nat} (h : PS X st (tS X.K (sAsg (VL.eLcC fi t tt fe vs) t'))) : PS X st (tXS X.K W (yAsg (up (eLcC fi t tt fe vs)) t')) := by rw [eLcC_eq] at h; exact upAsg h
theorem vj_rg1 {X : Cx} {tg a : Expr} {f : EF} {p pos : Pos} (hm : X.mg "range" = none) (ha : PE X a (tE X.K f)) (hg : Gl X "range" := by rfl) (hs : starEach [a] X.env = [(false, eval a X.env)] := by rfl) : PI X tg (.Call (.Name "range" p) [a] [] pos) (VL.tI X.K (VC.iRg1 f)) := by
  rw [← VC.iRg1_eq]; exact ij_rg1 hm ha hg hs
theorem vj_rg2 {X : Cx} {tg a b : Expr} {f g : EF} {p pos : Pos} (hm : X.mg "range" = none) (ha : PE X a (tE X.K f)) (hb : PE X b (tE X.K g)) (hg : Gl X "range" := by rfl) (hs : starEach [a, b] X.env = [(false, eval a X.env), (false, eval b X.env)] := by rfl)
    (hs2 : starEach [b] X.env = [(false, eval b X.env)] := by rfl) : PI X tg (.Call (.Name "range" p) [a, b] [] pos) (VL.tI X.K (VC.iRg2 f g)) := by
  rw [← VC.iRg2_eq]; exact ij_rg2 hm ha hb hg hs hs2
theorem vj_rgv {X : Cx} {tg l : Expr} {f : EF} (h : PE X l (tE X.K f)) : PI X tg l (VL.tI X.K (VC.iRgv f)) := by
  rw [← VC.iRgv_eq]; exact ij_rgv h
def iRevC (f : EF) (ρ : Rho) (μ : Mu) : Option (List PyData × Option Nat × Mu) := match f ρ μ with
  | some (.loc n, μ1) => (match μ1[n]? with
    | some ds => bif decide (ds.length ≤ 1) then some (ds, some n, μ1) else none
    | none => none)
  | some (.d (.tuple ds), μ1) => some (ds.reverse, none, μ1)
  | some (.d (.list ds), μ1) => some (ds.reverse, none, μ1)
  | _ => none
theorem ij_revC {X : Cx} {tg e : Expr} {f : EF} {p pos : Pos} (hm : X.mg "reversed" = none) (he : PE X e (tE X.K f)) (hg : Gl X "reversed" := by rfl) (hs : starEach [e] X.env = (false, eval e X.env) :: starEach [] X.env := by rfl) : PI X tg (.Call (.Name "reversed" p) [e] [] pos) (VL.tI X.K (iRevC f)) :=
  ⟨fun pins s σ H R I ⟨φ, ρ, μ, ds, src, μ', rs, e, k⟩ => by
  have e0 := e
  unfold iRevC at e
  split at e
  · rename_i n μ1 e1
    split at e
    · rename_i es e2
      cases hl : decide (es.length ≤ 1) with
      | false => rw [hl] at e; cases e
      | true =>
      rw [hl] at e
      cases e
      have hl := of_decide_eq_true hl
      have er : ∀ zs : List PyData, zs.length ≤ 1 → zs.reverse = zs := fun zs h => by
        match zs, h with
        | [], _ => rfl
        | [_], _ => rfl
      refine (RT.pi_revA hg hm he hs).run pins s σ H R I ⟨φ, ρ, μ, _, _, rs, e1, fun φ1 v H1 g1 c1 r1 => ?_⟩
      obtain ⟨a, h5, rfl⟩ := r1
      obtain ⟨xs, h6, h7⟩ := c1.at_ n a _ h5 e2
      refine ⟨a, xs, rfl, .inl ⟨SqL.of h6, k φ1 _ H1 g1 c1 fun φ' H' μ2 g c hs2 i => ?_⟩⟩
      obtain ⟨ψ, p1, _⟩ := g.pre
      have h5' : φ'.2[n]? = some a := by rw [p1, List.getElem?_append_left (List.getElem?_eq_some_iff.mp h5).1]; exact h5
      obtain ⟨ys, h1', h2'⟩ := c.at_ n a _ h5' (hs2 n rfl)
      have ll : xs.length = ys.length := by rw [← h7.len, h2'.len]
      refine ⟨fun d e => ?_, fun hl2 => by
        show xs.length ≤ i
        rw [← h7.len]; exact hl2⟩
      rw [← er _ hl] at e
      obtain ⟨hl3, e3⟩ := rev_get e
      obtain ⟨z, e4, e5⟩ := h2'.get e3
      rw [h7.len] at e4
      refine ⟨⟨by rw [← h7.len]; exact hl3, ys, z, SqL.of h1', e4⟩, fun x H'' hy => ?_⟩
      obtain ⟨rfl, hy⟩ := hy
      have := hy ys (SqL.of h1')
      rw [e4] at this; cases this
      exact ⟨.refl _ _, c, e5⟩
    · cases e
  · rename_i es μ1 e1
    cases e
    exact (ij_rev hm he hg hs).run pins s σ H R I ⟨φ, ρ, μ, _, _, _, rs, by unfold VL.iRev; rw [e1], k⟩
  · rename_i es μ1 e1
    cases e
    exact (ij_rev hm he hg hs).run pins s σ H R I ⟨φ, ρ, μ, _, _, _, rs, by unfold VL.iRev; rw [e1], k⟩
  · cases e⟩
/-! slices with ends that may not raise: by EF -/
theorem yj_sl {X : Cx} {W : WX} {a : Expr} {lo hi : Option Expr} {p2 pos : Pos} {f : EX} {g h : OF} (ha : PE X a (tX X.K W f)) (hl : PO X lo (tO X.K g)) (hh : PO X hi (tO X.K h)) : PE X (.Subscript a (.Slice lo hi none p2) pos) (tX X.K W (up (eSl (dn f) g h))) := upE (ej_sl (dnE ha) hl hh)
theorem yj_rev {X : Cx} {W : WX} {e : Expr} {f : EX} {k : Nat} {p1 p2 p3 pos : Pos} (he : PE X e (tX X.K W f)) : PE X (.Subscript e (.Slice none none (some (.UnaryOp .USub (.Constant (.int 1) k p1) p2)) p3) pos) (tX X.K W (up (eB1 oRevS (dn f)))) := upE (ej_rev (dnE he))
@[simp] def xRepC (f g : EX) (ρ : Rho) (μ : Mu) : RM Vw := bd (f ρ μ) fun x μ1 => bd (g ρ μ1) fun y μ2 => match y with
  | .d (.int k) => (match toLm μ2 x with
    | some ds => if k ≤ 1000000 ∧ -1000000 ≤ k ∧ ds.length * k.toNat ≤ 1000000 then some (.ok (.loc μ2.length) (μ2 ++ [(List.replicate k.toNat ds).flatten])) else none
    | none => none)
  | _ => none
theorem yj_mulC {X : Cx} {W : WX} {a b : Expr} {pos : Pos} {f g : EX} (ha : PE X a (tX X.K W f)) (hb : PE X b (tX X.K W g)) : PE X (.BinOp a .Mult b pos) (tX X.K W (xRepC f g)) := PE.to (pe_op op_rep ha hb) fun σ H Q ⟨φ, ρ, μ, rs, k⟩ => by
  refine ⟨φ, ρ, μ, rs, RsP.bd k fun x μ1 _ k1 φ1 u H1 g1 c1 r1 => ?_⟩
  refine ⟨φ1, ρ, μ1, rs.step g1.w c1, RsP.bd (VP.grow g1 k1) fun y μ2 _ k2 φ2 v H2 g2 c2 r2 => ?_⟩
  split at k2
  · rename_i i
    split at k2
    · rename_i ds e3
      split at k2
      · rename_i hl
        obtain ⟨a, xs, rfl, h1, h2⟩ := toLm_ok c2 (RV.step g2.w _ _ r1) e3
        cases r2
        exact ⟨a, _, xs, rfl, rfl, h1, by omega, by omega, by rw [← h2.len]; exact size_ok hl.2.2, new_cell c2 (da_rep h2 _) fun φ3 v3 H3 g3 c3 r3 => k2 φ3 v3 H3 (g2.trans g3) c3 r3⟩
      · exact k2.elim
    · exact k2.elim
  · exact k2.elim
@[simp] def xCatC (f g : EX) (ρ : Rho) (μ : Mu) : RM Vw := bd (f ρ μ) fun x μ1 => bd (g ρ μ1) fun y μ2 => match toLm μ2 x, toLm μ2 y with
  | some xs, some ys => if xs.length + ys.length ≤ 1000000 then some (.ok (.loc μ2.length) (μ2 ++ [xs ++ ys])) else none
  | _, _ => none
theorem yj_catC {X : Cx} {W : WX} {a b : Expr} {pos : Pos} {f g : EX} (ha : PE X a (tX X.K W f)) (hb : PE X b (tX X.K W g)) : PE X (.BinOp a .Add b pos) (tX X.K W (xCatC f g)) := PE.to (pe_op op_cat ha hb) fun σ H Q ⟨φ, ρ, μ, rs, k⟩ => by
  refine ⟨φ, ρ, μ, rs, RsP.bd k fun x μ1 _ k1 φ1 u H1 g1 c1 r1 => ?_⟩
  refine ⟨φ1, ρ, μ1, rs.step g1.w c1, RsP.bd (VP.grow g1 k1) fun y μ2 _ k2 φ2 v H2 g2 c2 r2 => ?_⟩
  split at k2
  · rename_i xs ys e3 e5
    split at k2
    · rename_i hl
      obtain ⟨a, us, q1, h1, s1⟩ := toLm_ok c2 (RV.step g2.w _ _ r1) e3
      obtain ⟨b, vs, q2, h2, s2⟩ := toLm_ok c2 r2 e5
      have l1 := s1.len
      have l2 := s2.len
      exact ⟨a, b, us, vs, q1, q2, h1, h2, size_ok (by omega), new_cell c2 (s1.append s2) fun φ3 v3 H3 g3 c3 r3 => k2 φ3 v3 H3 (g2.trans g3) c3 r3⟩
    · exact k2.elim
  · exact k2.elim
end VY
end
section
set_option Elab.async false
set_option linter.all false
set_option maxRecDepth 100000
namespace VY
open PySem PySem.Spec PyProof.Rows L2 VL LamX
variable [LawTabs]
section
variable {P : Program} {w : World} {K : PySem.W.Frag} {mg : Str → Option Value} {base : Heap}
/-- .. of a def in which lambdas are made -/
theorem fnG_okL (fresh : Bool) {x : Str} {params : Arguments} {body : List Stmt} {scope : Scope} {fd : FuncData} {N ps : List Str} {k : Nat} {g : SX} (F : FunD K x x params body scope [] [] (He.ga K x) fd) (S : FnScope N ps scope)
    (h : ∀ (cdv : Value) (A : Around) (outer : List Env) (s : Shared) (H : Hp) (E : XK), cdv = .ref (He.cT K (x, none)).1 → RoomG k (A.deeper (envOfC x scope s.heap.objs.size (He.ga K x) cdv)) → PSs (cxOf (L2.CX P w) P w K mg base N x scope (He.ga K x) cdv A outer s H E) body (tXS K (wf E) g)) :
    FnG P w K mg base (k + 1) (He.ga K x) fd ps (spY K ps.length (fnY fresh N.length g)) := by
  obtain ⟨oc, od, dV, kV, doc, pm, an, cdv, ct, osl, efd, lk, hcd, h1, h2⟩ := F.ex
  obtain ⟨c, rfl⟩ := He.codeIn_ref hcd
  have ec : He.codeOf K (x, none) = c := He.codeOf_eq (p := (x, none)) lk (by rw [efd])
  have len : ∀ vs H Q E, spY K ps.length (fnY fresh N.length g) vs H Q E → vs.length = ps.length := fun vs H Q E ⟨φ, μ, ws, c, r, hl, k⟩ => by rw [← r.len, hl]
  refine ⟨len, fun A outer s H args us vs Q E hr e0 hb r hsp => ?_⟩
  rw [efd] at lk hb
  refine LamX.run_ofS lk hcd S hr.r e0 hb r (len _ _ _ _ hsp) fun _ => ⟨_, h (.ref c) A outer s H E (by rw [← ec]; rfl) (hr.deeper _), ?_⟩
  obtain ⟨φ, μ, ws, c, rv, hl, kk⟩ := hsp
  refine ⟨φ, _, μ, rvs_start c rv, ?_⟩
  unfold fnY at kk
  cases e : g (ws.map some ++ List.replicate (N.length - ws.length) none) μ with
  | none => rw [e] at kk; exact kk.elim
  | some q =>
    rw [e] at kk
    cases q with
    | ex x μ1 => exact XP.cut c kk
    | ok q μ1 =>
      cases q with
      | nx ρ1 => exact fun φ2 σ2 H2 g2 r2 => kk φ .non H2 (cut_grow g2) (cut_cells c g2 r2.c) rfl
      | rt w1 =>
        cases e2 : frz fresh μ.length w1 μ1 with
        | none => simp only [e2] at kk; exact kk.elim
        | some z =>
          simp only [e2] at kk
          exact fun φ2 v2 H2 g2 c2 r2 => frz_post c g2 c2 r2 e2 kk
      | bk ρ1 => exact kk.elim
      | ct ρ1 => exact kk.elim
theorem calY_okL (fresh : Bool) {x : Str} {params : Arguments} {body : List Stmt} {scope : Scope} {fd : FuncData} {N ps : List Str} {k : Nat} {g : SX} (hf : mg x = some (.ref (He.ga K x))) (F : FunD K x x params body scope [] [] (He.ga K x) fd) (S : FnScope N ps scope)
    (hb : ∀ (kV doc pm : Value) (an : Option Addr) (cdv ct : Value) (us : List Value), us.length = ps.length → bindArgs (PySem.W.fnOf x x params body scope .none kV doc pm an cdv ct) ⟨us, []⟩ = pure (ps.zip us))
    (h : ∀ (cdv : Value) (A : Around) (outer : List Env) (s : Shared) (H : Hp) (E : XK), cdv = .ref (He.cT K (x, none)).1 → RoomG k (A.deeper (envOfC x scope s.heap.objs.size (He.ga K x) cdv)) → PSs (cxOf (L2.CX P w) P w K mg base N x scope (He.ga K x) cdv A outer s H E) body (tXS K (wf E) g)) :
    CalY P w K mg base (k + 1) x ps.length (fnY fresh N.length g) := ⟨fd, ps, fnG_okL fresh F S h, hf, F.kp, F.bindsN hb⟩
/-- the met def's facts out of FunD -/
theorem metD_of {x a : Str} {params : Arguments} {body : List Stmt} {scope : Scope} {fd : FuncData} {N : List Str} (hf : mg x = some (.ref (He.ga K x))) (F : FunD K x x params body scope [] [] (He.ga K x) fd) (S : FnScope N [a] scope)
    (hb : ∀ (kV doc pm : Value) (an : Option Addr) (cdv ct : Value) (us : List Value), us.length = 1 → bindArgs (PySem.W.fnOf x x params body scope .none kV doc pm an cdv ct) ⟨us, []⟩ = pure ([a].zip us)) : ∃ cdv, MetD K mg x a N scope body (He.ga K x) cdv := by
  obtain ⟨oc, od, dV, kV, doc, pm, an, cdv, ct, osl, efd, lk, hcd, h1, h2⟩ := F.ex
  subst efd
  exact ⟨cdv, hf, F.kp, ⟨_, _, _, _, _, _, _, _, _, _, lk, F.bindsN hb⟩, hcd, S⟩
end
theorem tz_named {X : Cx} {sts : List Stmt} {g : PyData → Option PyData} {Z : PyData → Ph → Hp → L2.St → Prop} (h : ∀ p q, g p = some q → PSs X sts (fun D σ H => tZ X.K (Z p) q σ H D.rt)) : PSs X sts (fun D σ H => ∃ p q, g p = some q ∧ tZ X.K (Z p) q σ H D.rt) :=
  ⟨fun pins s σ H D I ⟨p, q, e, t⟩ => (h p q e).run pins s σ H D I t⟩
def bmA : List Value := [.type "ArithmeticError", .type "Exception", .type "BaseException", .type "object"]
theorem lowB_A : LowB bmA "ArithmeticError" "ArithmeticError.__new__" "ArithmeticError.__init__" := ⟨PySem.F.excBase_ArithmeticError, fun self => by kernel_rfl, by decide +kernel, rfl⟩
def bmI : List Value := [.type "IndexError", .type "LookupError", .type "Exception", .type "BaseException", .type "object"]
theorem lowB_I : LowB bmI "IndexError" "IndexError.__new__" "IndexError.__init__" := ⟨PySem.F.excBase_IndexError, fun self => by kernel_rfl, by decide +kernel, rfl⟩
def bmO : List Value := [.type "OverflowError", .type "ArithmeticError", .type "Exception", .type "BaseException", .type "object"]
theorem lowB_O : LowB bmO "OverflowError" "OverflowError.__new__" "OverflowError.__init__" := ⟨PySem.F.excBase_OverflowError, fun self => by kernel_rfl, by decide +kernel, rfl⟩
def bmL : List Value := [.type "LookupError", .type "Exception", .type "BaseException", .type "object"]
theorem lowB_L : LowB bmL "LookupError" "LookupError.__new__" "LookupError.__init__" := ⟨PySem.F.excBase_LookupError, fun self => by kernel_rfl, by decide +kernel, rfl⟩
/-! an own exception that keeps one value, read by a Bool over the frame -/
def clsB (K : PySem.W.Frag) (x : Str) (bm : List Value) (new : String) : Bool := match K.lookup (He.ga K x) with
  | some ⟨.type t, _, .cls cd, sl⟩ => (match cd.mro, sl.toList with
    | .ref C' :: bm', [_, _, _, _, some (.builtin n), _] => decide (t = "type") && (decide (C' = He.ga K x) && (decide (n = new) && (!cd.hasDel && (decide (bm' = bm) && cd.hasDict))))
    | _, _ => false)
  | _ => false
theorem clsB_ok {K : PySem.W.Frag} {x : Str} {bm : List Value} {new : String} (q : clsB K x bm new = true) : ∃ nm q N bs sn sub ab col dd k0 k1 k2 k3 k5, K.lookup (He.ga K x) = some (excClassObj nm q (He.ga K x) N bs bm true sn sub ab col dd k0 k1 k2 k3 k5 new) := by
  unfold clsB at q
  split at q
  · rename_i t dd cd sl ho
    split at q
    · rename_i C' bm' k0 k1 k2 k3 n k5 hm hs
      simp only [Bool.and_eq_true, decide_eq_true_eq, Bool.not_eq_true'] at q
      obtain ⟨rfl, rfl, rfl, hdel, rfl, hd1⟩ := q
      obtain ⟨nm, bs, mro, ns, qn, hd, sn, sub, ab, col, del⟩ := cd
      dsimp only at hm hdel hd1
      subst hm hdel hd1
      obtain ⟨l⟩ := sl
      simp only at hs
      subst hs
      exact ⟨nm, qn, ns, bs, sn, sub, ab, col, dd, k0, k1, k2, k3, k5, ho⟩
    · cases q
  · cases q
def lowK (K : PySem.W.Frag) (x f : Str) (bm : List Value) (new : String) : Bool := clsB K x bm new && (He.eqO (PySem.W.findIn K (.ref (He.ga K x)) "__setattr__") (some (some (.builtin "object.__setattr__"))) && (He.eqO (PySem.W.findIn K (.ref (He.ga K x)) "__getattribute__") (some (some (.builtin "BaseException.__getattribute__"))) && (He.eqO (PySem.W.findIn K (.ref (He.ga K x)) "__getattr__") (some none) && (He.eqO (PySem.W.findIn K (.ref (He.ga K x)) f) (some none) && (He.eqO (PySem.W.findIn K (.ref (He.ga K x)) "__init__") (some (some (.ref (He.ma K (He.ga K x) "__init__")))) && (decide (PySem.W.typeIn K (.ref (He.ma K (He.ga K x) "__init__")) = some (.type "function")) && (PySem.W.keepIn K (.ref (He.ga K x)) && (decide (PySem.W.subIn K (.ref (He.ga K x)) (.type "BaseException") = some true) && (decide (PySem.W.typeIn K (.ref (He.ga K x)) = some (.type "type")) && PySem.W.hasDictIn K (He.ga K x))))))))))
theorem lowK_ok {K : PySem.W.Frag} {mg : Str → Option Value} {x f qn : Str} {bm : List Value} {new : String} {p1 p2 q1 q2 q3 q4 : Pos} (hg : mg x = some (.ref (He.ga K x))) (mo : lowK K x f bm new = true) (F : ∃ fd, FunD K "__init__" qn (inA f p1 p2) (inB f q1 q2 q3 q4) (inS f) [] [] (He.ma K (He.ga K x) "__init__") fd) :
    LowC K mg x f bm new (He.ga K x) (He.ma K (He.ga K x) "__init__") := by
  obtain ⟨x0, mo⟩ := He.ba (show (_ && _) = true from mo)
  obtain ⟨x1, mo⟩ := He.ba (show (_ && _) = true from mo)
  obtain ⟨x2, mo⟩ := He.ba (show (_ && _) = true from mo)
  obtain ⟨x3, mo⟩ := He.ba (show (_ && _) = true from mo)
  obtain ⟨x4, mo⟩ := He.ba (show (_ && _) = true from mo)
  obtain ⟨x5, mo⟩ := He.ba (show (_ && _) = true from mo)
  obtain ⟨x6, mo⟩ := He.ba (show (_ && _) = true from mo)
  obtain ⟨x7, mo⟩ := He.ba (show (_ && _) = true from mo)
  obtain ⟨x8, mo⟩ := He.ba (show (_ && _) = true from mo)
  obtain ⟨x9, x10⟩ := He.ba (show (_ && _) = true from mo)
  refine ⟨hg, clsB_ok x0, He.eqO_ok x1, He.eqO_ok x2, He.eqO_ok x3, He.eqO_ok x4, He.eqO_ok x5, of_decide_eq_true x6, x7, of_decide_eq_true x8, of_decide_eq_true x9, x10, ?_⟩
  obtain ⟨fd, F⟩ := F
  obtain ⟨oc, od, dV, kV, doc, pm, an, cdv, ct, osl, rfl, lk, hcd, hd, _⟩ := F.ex
  obtain ⟨_, rfl⟩ | ⟨h, _⟩ := hd
  · exact ⟨oc, od, doc, pm, kV, an, cdv, ct, osl, qn, _, _, _, _, _, _, lk, hcd⟩
  · exact absurd rfl h
def exmB (K : PySem.W.Frag) (cl : List Str) : Bool := cl.all fun y => cl.all fun z => decide (PySem.W.exmOne K (.ref (He.ga K y)) (.ref (He.ga K z)) = some (decide (y = z)))
theorem exmB_ok {K : PySem.W.Frag} {cl : List Str} (h : exmB K cl = true) : ∀ y ∈ cl, ∀ z ∈ cl, PySem.W.exmOne K (.ref (He.ga K y)) (.ref (He.ga K z)) = some (decide (y = z)) := fun y hy z hz => of_decide_eq_true (List.all_eq_true.mp (List.all_eq_true.mp h y hy) z hz)
def tabUB (T : List (Addr × Str)) : Bool := T.all fun p => T.all fun q => !decide (p.1 = q.1) || decide (p.2 = q.2)
theorem tabUB_ok {T : List (Addr × Str)} (h : tabUB T = true) : ∀ p ∈ T, ∀ q ∈ T, p.1 = q.1 → p.2 = q.2 := fun p hp q hq e => by
  have := List.all_eq_true.mp (List.all_eq_true.mp h p hp) q hq
  simpa [e] using this
end VY
end
section
set_option Elab.async false
set_option linter.all false
set_option maxRecDepth 100000
/-! a mirror reckoned step by step -/
namespace VY
open PySem PySem.Spec PyProof.Rows L2 VL
variable [LawTabs]
theorem seq_ok {g h : SX} {ρ ρ1 : Rho} {μ μ1 : Mu} {R : RM S1} (e : g ρ μ = some (.ok (.nx ρ1) μ1)) (k : h ρ1 μ1 = R) : ySeq g h ρ μ = R := by
  simp only [ySeq, e, bd]
  exact k
theorem for_ok {fi : IF} {t : TF} {b : SX} {ρ ρ1 : Rho} {μ μ0 μ1 : Mu} {ds : List PyData} (e : fi ρ μ = some (ds, none, μ0)) (k : forY t b none ds ds ρ μ0 = some (.ok (.nx ρ1) μ1)) : yFor fi t b ρ μ = some (.ok (.nx ρ1) μ1) := by
  simp only [yFor, e]
  exact k
theorem forY_c {t : TF} {b : SX} {all ds : List PyData} {d : PyData} {ρ ρ1 ρ2 : Rho} {μ μ2 : Mu} {R : RM S1} (e1 : t (.d d) ρ = some ρ1) (e2 : b ρ1 μ = some (.ok (.nx ρ2) μ2)) (k : forY t b none all ds ρ2 μ2 = R) : forY t b none all (d :: ds) ρ μ = R := by
  unfold forY
  rw [show VC.sok none all μ = true from rfl, e1]
  simp only [cond_true, e2, bd]
  exact k
theorem forY_n {t : TF} {b : SX} {all : List PyData} {ρ : Rho} {μ : Mu} : forY t b none all [] ρ μ = some (.ok (.nx ρ) μ) := rfl
theorem fnY_rt {n : Nat} {b : SX} {μ μ1 : Mu} {ws : List Vw} {v : PyData} (e : b (ws.map some ++ List.replicate (n - ws.length) none) μ = some (.ok (.rt (.d v)) μ1)) : fnY false n b μ ws = some (.ok (.d v) (μ1.take μ.length)) := by
  unfold fnY
  rw [e]
  rfl
end VY
end
section
set_option Elab.async false
set_option linter.all false
set_option maxRecDepth 100000
/-! ### sorted(xs), xs a list of tuples of any data that can be compared place by place -/
namespace VY
open PySem PySem.Spec PyProof.Rows L2 VL
open PySem.W (EachIs TotalLe sameRank dataLe AllAlike Sortable)
variable [LawTabs]
section
variable {α : Type} {le : α → α → Bool}
def insB (le : α → α → Bool) (x : α) : List α → List α
  | [] => [x]
  | y :: l => bif le x y then x :: y :: l else y :: insB le x l
def isortB (le : α → α → Bool) (l : List α) : List α := l.foldr (insB le) []
theorem insB_mem (x z : α) : ∀ l, z ∈ insB le x l ↔ z = x ∨ z ∈ l
  | [] => by simp [insB]
  | y :: l => by
    unfold insB
    cases le x y
    · simp only [cond_false, List.mem_cons, insB_mem x z l]
      constructor
      · rintro (h | h | h) <;> simp [h]
      · rintro (h | h | h) <;> simp [h]
    · simp
theorem insB_srt (h : TotalLe le) (x : α) : ∀ l, l.Pairwise (fun a b => le a b = true) → (insB le x l).Pairwise (fun a b => le a b = true)
  | [], _ => by simp [insB]
  | y :: l, hp => by
    obtain ⟨h1, h2⟩ := List.pairwise_cons.mp hp
    unfold insB
    cases e : le x y
    · simp only [cond_false]
      refine List.pairwise_cons.mpr ⟨fun z hz => ?_, insB_srt h x l h2⟩
      rcases (insB_mem x z l).mp hz with rfl | hz
      · exact (h.total _ _).resolve_left (by rw [e]; simp)
      · exact h1 z hz
    · simp only [cond_true]
      exact List.pairwise_cons.mpr ⟨fun z hz => (List.mem_cons.mp hz).elim (fun q => by rw [q]; exact e) fun q => h.trans _ _ _ e (h1 z q), hp⟩
theorem insB_flt (h : TotalLe le) (c x : α) : ∀ l, (insB le x l).filter (sameRank le c) = (x :: l).filter (sameRank le c)
  | [] => rfl
  | y :: l => by
    unfold insB
    cases e : le x y
    · simp only [cond_false]
      have ih := insB_flt h c x l
      have no : ¬ (sameRank le c x = true ∧ sameRank le c y = true) := fun ⟨p, q⟩ => by
        unfold sameRank at p q
        rw [Bool.and_eq_true] at p q
        have := h.trans _ _ _ p.2 q.1
        rw [e] at this; cases this
      cases ex : sameRank le c x
      · simp only [List.filter_cons, ih, ex]
        simp
      · cases ey : sameRank le c y
        · simp only [List.filter_cons, ih, ex, ey]
          simp
        · exact absurd ⟨ex, ey⟩ no
    · rfl
theorem isortB_eq (h : TotalLe le) (l : List α) : isortB le l = l.mergeSort le := by
  refine PySem.W.sort_unique h ?_ ?_
  · induction l with
    | nil => exact List.Pairwise.nil
    | cons x l ih => exact insB_srt h x _ ih
  · intro c
    induction l with
    | nil => rfl
    | cons x l ih =>
      show (insB le x (isortB le l)).filter _ = _
      rw [insB_flt h]
      simp only [List.filter_cons, ih]
theorem isortB_mem (z : α) : ∀ l : List α, z ∈ isortB le l ↔ z ∈ l
  | [] => Iff.rfl
  | x :: l => by
    show z ∈ insB le x (isortB le l) ↔ _
    rw [insB_mem, isortB_mem z l, List.mem_cons]
end
def leD : PyData → PyData → Bool := dataLe false fun d : PyData => d
theorem leD_total : TotalLe leD := by
  unfold leD dataLe
  exact PySem.W.sortLe_total _ _ _
def tupB : PyData → Bool
  | .tuple (_ :: _) => true
  | _ => false
/-- they can be sorted -/
def sortB (ds : List PyData) : Bool := decide (ds.length ≤ 1000000) && (ds.all (fun d => tupB d && (d.plain && decide (d.depth ≤ 100))) && ds.all (fun d => ds.all (fun e => PySem.W.alike d e)))
def dsort (ds : List PyData) : List PyData := isortB leD ds
@[simp] def oSortedD (μ : Mu) (ws : List Vw) : Option Vw := match ws with
  | [w] => (match toL μ w with
    | some ds => if sortB ds = true then some (.d (.list (dsort ds))) else none
    | none => none)
  | _ => none
def PrD (K : PySem.W.Frag) (H : Hp) (xs : List V) (ds : List PyData) : Prop := xs.length = ds.length ∧ ∀ z ∈ xs.zip ds, Dp K H z.1 z.2
def rSortedD (K : PySem.W.Frag) : List V → Hp → VK → Prop := fun vs H Q => ∃ (a : Addr) (xs : List V) (ds : List PyData), vs = [V.ref a] ∧ SqL K H a xs ∧ PrD K H xs ds ∧ sortB ds = true ∧
  ∀ (ys : List V) (p : Addr), ys.length = (dsort ds).length → (∀ z ∈ ys.zip (dsort ds), z ∈ xs.zip ds) → H p = none → Q (.ref p) (upd H p (.lst ys))
theorem each_get {α β : Type} {R : α → β → Prop} : ∀ {as : List α} {bs : List β}, as.length = bs.length → (∀ z ∈ as.zip bs, R z.1 z.2) → EachIs R as bs
  | [], [], _, _ => .nil
  | a :: as, b :: bs, hl, h => .cons (h (a, b) (by simp)) (each_get (by simpa using hl) fun z hz => h z (by rw [List.zip_cons_cons]; exact List.mem_cons_of_mem _ hz))
theorem each_zip {α β : Type} {R : α → β → Prop} {as : List α} {bs : List β} (h : EachIs R as bs) : ∀ z ∈ as.zip bs, R z.1 z.2 := by
  induction h with
  | nil => intro z hz; simp at hz
  | cons r h ih =>
    intro z hz
    rw [List.zip_cons_cons, List.mem_cons] at hz
    rcases hz with rfl | hz
    · exact r
    · exact ih z hz
theorem sortB_all {ds : List PyData} (h : sortB ds = true) : ds.length ≤ 1000000 ∧ (∀ d ∈ ds, (∃ x r, d = .tuple (x :: r)) ∧ d.plain = true ∧ d.depth ≤ 100) ∧ AllAlike ds := by
  unfold sortB at h
  simp only [Bool.and_eq_true, decide_eq_true_eq, List.all_eq_true] at h
  obtain ⟨h1, h2, h3⟩ := h
  refine ⟨h1, fun d hd => ?_, fun d hd e he => h3 d hd e he⟩
  obtain ⟨p, q, r⟩ := h2 d hd
  refine ⟨?_, q, r⟩
  cases d with
  | tuple l =>
    cases l with
    | nil => cases p
    | cons x l => exact ⟨x, l, rfl⟩
  | _ => cases p
theorem zip_mem_left {α β : Type} {as : List α} {bs : List β} (hl : as.length = bs.length) : ∀ a ∈ as, ∃ b, (a, b) ∈ as.zip bs := fun a ha => by
  obtain ⟨i, hi, e⟩ := List.mem_iff_getElem.mp ha
  exact ⟨bs[i]'(by omega), List.mem_iff_getElem.mpr ⟨i, by simp; omega, by simp [e]⟩⟩
theorem cr_sortedD {X : Cx} (hu : X.A.units + 200 < cLine) : CallR X (.builtin "sorted") (rSortedD X.K) := by
  intro pins s σ H vs us Q I r h
  obtain ⟨a, xs, ds, rfl, hs, ⟨hlen, hp⟩, ok, q⟩ := h
  obtain ⟨h1, h2, h3⟩ := sortB_all ok
  obtain ⟨its, rv, hl, hz⟩ := I.list hs
  rw [Vals.ref1 r]
  have hm : ∀ z ∈ xs.zip ds, z.2 ∈ ds := fun z hz => (List.of_mem_zip (a := z.1) (b := z.2) hz).2
  have href : ∀ x ∈ xs, ∃ t, x = V.ref t := fun x hx => by
    obtain ⟨d, hd⟩ := zip_mem_left hlen x hx
    obtain ⟨⟨y, r, e⟩, _, _⟩ := h2 d (hm _ hd)
    subst e
    have h8 : Dp X.K H x (.tuple (y :: r)) := hp _ hd
    cases h8 with
    | tup _ _ => exact ⟨_, rfl⟩
  obtain ⟨e1, e2⟩ := refs_back rv href
  have hil : its.length = ds.length := by rw [← rv.length]; exact hlen
  refine PySem.W.sorted_data (β := PyData) (vs := its) (bs := ds) (enc := fun d => d) (R := fun v d => (v, d) ∈ its.zip ds) hl.isList (each_get hil fun z hz => hz) (each_get hil fun z hz => ?_) (by rw [List.map_id']; exact h3) (by rw [List.map_id']; exact .inl fun d hd => (h2 d hd).1) (size_ok h1) (fun d hd => by have := (h2 d hd).2.2; show X.A.units + 2 + d.depth < cLine; omega) fun out ho eo => ?_
  · obtain ⟨i, hi, e⟩ := List.mem_iff_getElem.mp hz
    have hi1 : i < its.length := by simp at hi; omega
    have hi2 : i < ds.length := by omega
    have hi3 : i < xs.length := by omega
    have hz2 : (xs[i], ds[i]) ∈ xs.zip ds := List.mem_iff_getElem.mpr ⟨i, by simp; omega, by simp⟩
    have ez : z = (its[i], ds[i]) := by rw [← e]; simp
    subst ez
    obtain ⟨b, eb⟩ := e2 its[i] (List.getElem_mem hi1)
    have ex : xs[i] = V.ref b := by
      have : xs[i]? = (its.map backV)[i]? := by rw [← e1]
      rw [List.getElem?_eq_getElem hi3, List.getElem?_map, List.getElem?_eq_getElem hi1, eb] at this
      exact Option.some.inj this
    have hd := hp _ hz2
    rw [ex] at hd
    show ∃ as, Reads s.heap its[i] ds[i] as
    rw [eb]
    exact Dp.reads I _ _ _ hd rfl
  · have hzo := each_zip eo
    have hmo : ∀ u ∈ out, u ∈ its := fun u hu => by
      have hlo : out.length = (ds.mergeSort (dataLe false fun d => d)).length := by rw [ho, List.length_mergeSort]
      obtain ⟨d, hd⟩ := zip_mem_left hlo u hu
      exact (List.of_mem_zip (hzo _ hd)).1
    have h5 : ∀ u ∈ out, ∃ a, u = Value.ref a := fun u hu => e2 u (hmo u hu)
    have hds : dsort ds = ds.mergeSort (dataLe false fun d => d) := isortB_eq leD_total ds
    have hlo : out.length = (dsort ds).length := by rw [hds, List.length_mergeSort]; exact ho
    obtain ⟨ep, he'⟩ := PyProof.Rows.sortedAll_at s.heap its out.toArray
    refine ⟨.ref (s.heap.objs.size + 1), upd H (s.heap.objs.size + 1) (.lst (out.map backV)), I.laid (t' := s.toks) (fun _ _ => PyProof.Rows.sortedAll_old) (Nat.le_succ _) ⟨by rw [List.length_map, ho, ← hil, ← rv.length]; exact hz, out, ep, vals_back h5, he'⟩, rfl, q _ _ (by rw [List.length_map]; exact hlo) (fun z hz => ?_) (I.hok.fresh (Nat.le_succ _))⟩
    rw [hds, List.zip_map_left, List.mem_map] at hz
    obtain ⟨⟨u, d⟩, hz2, rfl⟩ := hz
    have h6 := hzo _ hz2
    rw [e1, List.zip_map_left, List.mem_map]
    exact ⟨(u, d), h6, rfl⟩
theorem oSortedD_ok {K : PySem.W.Frag} : OL K (rSortedD K) oSortedD := by
  intro φ H μ ws w vs Q c r e k
  unfold oSortedD at e
  split at e
  · rename_i z
    obtain ⟨v, rfl, r1⟩ := rvs1 r
    split at e
    · rename_i ds e2
      split at e
      · rename_i ok
        cases e
        obtain ⟨h1, h2, h3⟩ := sortB_all ok
        obtain ⟨a, xs, rfl, h4, h5⟩ := toL_ok c r1 e2
        have key : ∀ {ps : List PyData} {xs : List V}, DaAll K φ.av H ps xs → ∀ z ∈ xs.zip ps, Da K φ.av H z.2 z.1 := by
          intro ps
          induction ps with
          | nil => intro xs h z hz; simp at hz
          | cons p ps ih =>
            intro xs h z hz
            obtain ⟨u, us, rfl, hu, hus⟩ := h
            rw [List.zip_cons_cons, List.mem_cons] at hz
            rcases hz with rfl | hz
            · exact hu
            · exact ih hus z hz
        refine ⟨a, xs, ds, rfl, h4, ⟨h5.len.symm, fun z hz => Da.dp _ _ (h2 _ (List.of_mem_zip (a := z.1) (b := z.2) hz).2).2.1 (key h5 z hz)⟩, ok, fun ys p hl hz hn => ?_⟩
        have all : ∀ {qs : List PyData} {ys : List V}, ys.length = qs.length → (∀ z ∈ ys.zip qs, Da K φ.av H z.2 z.1) → DaAll K φ.av H qs ys := by
          intro qs
          induction qs with
          | nil => intro ys hl _; exact List.eq_nil_of_length_eq_zero hl
          | cons q qs ih =>
            intro ys hl hd
            cases ys with
            | nil => cases hl
            | cons y ys => exact ⟨y, ys, rfl, hd (y, q) (by simp), ih (by simpa using hl) fun z hz => hd z (by rw [List.zip_cons_cons]; exact List.mem_cons_of_mem _ hz)⟩
        exact new_lst c (all hl fun z hzz => key h5 z (hz z hzz)) k p hn
      · cases e
    · cases e
  · cases e
example : dsort [.tuple [.int 2, .tuple [.tuple [], .tuple [.int 1]]], .tuple [.int 2, .tuple [.tuple []]], .tuple [.int 1, .tuple [.str "b"]], .tuple [.int 1, .tuple [.str "a"]]] = [.tuple [.int 1, .tuple [.str "a"]], .tuple [.int 1, .tuple [.str "b"]], .tuple [.int 2, .tuple [.tuple []]], .tuple [.int 2, .tuple [.tuple [], .tuple [.int 1]]]] := by kernel_rfl
end VY
end
section
set_option Elab.async false
set_option linter.all false
set_option maxRecDepth 100000
/-! zip of a tuple and a list; math.lcm reckoned; sorted(set(xs)) of a list -/
namespace VY
open PySem PySem.Spec PyProof.Rows L2 VL
variable [LawTabs]
def ItzM (K : PySem.W.Frag) (n : Nat) (a b : Addr) : It :=
  ⟨fun i H => ∃ (xs ys : List V) (x y : V), SqT K H a xs ∧ SqL K H b ys ∧ xs[i]? = some x ∧ ys[i]? = some y ∧ i < n,
    fun i H v H' => ∃ T x y, v = .ref T ∧ H T = none ∧ H' = upd H T (.tup [x, y]) ∧ (∀ l, SqT K H a l → l[i]? = some x) ∧ (∀ l, SqL K H b l → l[i]? = some y),
    fun i H => ∃ xs ys : List V, SqT K H a xs ∧ SqL K H b ys ∧ n ≤ xs.length ∧ n ≤ ys.length ∧ (n = xs.length ∨ n = ys.length) ∧ n ≤ i⟩
theorem lst_ne {h : Heap} {a it : Addr} {its : Array Value} {o : Obj} (p : h.IsList a its) (e : h.get? it = some o) (hc : o.cls = .type "list_iterator") : a ≠ it := fun z => by
  obtain ⟨o2, e2, c2, _⟩ := p
  rw [z, e] at e2
  cases e2
  rw [hc] at c2
  exact absurd c2 (by decide)
theorem turn_zipM {P : Program} {w : World} {K : PySem.W.Frag} {elts : List Expr} {kk : Nat} {tpos : Pos} {n : Nat} {a b z TI TO i1 i2 : Addr} (D : ZipSep2 z TI TO i1 i2 [i1, a] [i2, b]) :
    Turn P w K (.Tuple elts kk tpos) (ItzM K n a b) [z, TI, TO, i1, i2] z (fun i h => i ≤ n ∧ IsZip h z TI TO .none ∧ IsTupOf2 h TI (.ref i1) (.ref i2) ∧ (∃ x y, IsTupOf2 h TO x y) ∧ h.IsTupleIter i1 a i ∧ h.IsListIter i2 b i) where
  mem := by simp
  obj := fun i h st q hq => by
    obtain ⟨_, hz, hTI, ⟨x, y, hTO⟩, ⟨o1, e1, _, d1⟩, ⟨o2, e2, _, d2⟩⟩ := st
    simp only [List.mem_cons, List.not_mem_nil, or_false] at hq
    rcases hq with rfl | rfl | rfl | rfl | rfl
    · exact ⟨_, hz, fun v q => nomatch q⟩
    · exact ⟨_, hTI, fun v q => nomatch q⟩
    · exact ⟨_, hTO, fun v q => nomatch q⟩
    · exact ⟨o1, e1, fun v q => by rw [d1] at q; cases q⟩
    · exact ⟨o2, e2, fun v q => by rw [d2] at q; cases q⟩
  keep := fun i h h' st k => by
    obtain ⟨hin, hz, hTI, ⟨x, y, hTO⟩, h1, h2⟩ := st
    exact ⟨hin, k z (by simp) _ hz, k TI (by simp) _ hTI, ⟨x, y, k TO (by simp) _ hTO⟩, h1.at fun o q => k i1 (by simp) o q, h2.at fun o q => k i2 (by simp) o q⟩
  item := by
    intro X hP hw hK hc i pins s σ H E I hf st hg
    subst hP hw hK
    obtain ⟨hin, hz, hTI, ⟨x0, y0, hTO⟩, h1, h2⟩ := st
    obtain ⟨xs, ys, x, y, hqx, hqy, hx, hy, hlt⟩ := hg
    obtain ⟨its, rv, p, _⟩ := I.tuple hqx
    obtain ⟨its2, rv2, p2, _⟩ := I.list hqy
    obtain ⟨u1, hu1, ru1⟩ := rv.get hx
    obtain ⟨u2, hu2, ru2⟩ := rv2.get hy
    have hzl : z < s.heap.objs.size := Heap.lt_size hz
    have hh : X.A.in1.handled = none := I.ok.hd hc
    have ne1 : a ≠ i1 := by obtain ⟨_, q, qc, _⟩ := id h1; exact tup_ne p q qc (by decide)
    have ne2 : b ≠ i2 := by obtain ⟨_, q, qc, _⟩ := id h2; exact lst_ne p2.isList q qc
    have lt : ∀ {l : List Value} {u : Value}, l[i]? = some u → i < l.toArray.size := fun h => by
      have := (List.getElem?_eq_some_iff.mp h).1
      simpa using this
    refine wpAny_pyNext_zipD2_item D (Draws.tuple hh i1 a ne1 its.toArray) (Draws.list hh i2 b ne2 its2.toArray) hz hTI hTO ⟨h1, show s.heap.IsTuple a its.toArray from p⟩ ⟨h2, p2.isList⟩ (lt hu1) (lt hu2) fun y1 y2 h' tk e1 e2 z' TO' h1' h2' hT hsz hk => ?_
    have same : ∀ {l : List Value} {u y : Value}, l.toArray[i]? = some y → l[i]? = some u → y = u := fun {l u y} h h2 => by
      have h' : l[i]? = some y := by simpa using h
      rw [h'] at h2; cases h2; rfl
    obtain rfl := same e1 hu1
    obtain rfl := same e2 hu2
    refine ⟨_, rfl, wpAny_letOwnedTupleGo_zip (s := { s with heap := h', toks := tk }) z' fun h'' z'' sb => ?_⟩
    have hT2 : h''.get? s.heap.objs.size = some { cls := .type "tuple", data := .seq #[y1, y2] } := (sb.2 _ (Nat.ne_of_gt hzl)).trans hT
    have new : ObjOk X.prog X.w (upd H s.heap.objs.size (.tup [x, y])) h'' s.heap.objs.size (.tup [x, y]) :=
      ⟨by show 2 ≤ sizeLine; decide, [y1, y2], .cons ru1 (.cons ru2 .nil), ⟨_, hT2, rfl, _, rfl⟩⟩
    have I1 : Inv X pins σ (upd H s.heap.objs.size (.tup [x, y])) { s with heap := h'', toks := tk } :=
      I.turnedNew (t' := tk) (ch := [z, TI, TO, i1, i2]) (fun q o hb e => (sb.2 q (fun q' => hb (by simp [q']))).trans (hk q o (fun q' => hb (by simp [q'])) (fun q' => hb (by simp [q'])) (fun q' => hb (by simp [q'])) (fun q' => hb (by simp [q'])) e)) hf (Nat.le_refl _) new
    have zi1 : i1 ≠ z := fun q => D.zf1 (by simp [q])
    have zi2 : i2 ≠ z := fun q => D.zf2 (by simp [q])
    refine ⟨.ref s.heap.objs.size, _, I1, rfl, ⟨_, x, y, rfl, I.hok.fresh (Nat.le_refl _), rfl, fun l hl => by rw [I.tuple_inj hl hqx]; exact hx, fun l hl => by rw [I.list_inj hl hqy]; exact hy⟩, ⟨hlt, z'', ?_, ⟨y1, y2, ?_⟩, ?_, ?_⟩, fun q hq => ?_⟩
    · exact (sb.2 _ D.TIz).trans (hk _ _ D.TIz D.TITO D.TIi1 D.TIi2 hTI)
    · exact (sb.2 _ D.TOz).trans TO'
    · exact h1'.1.at fun o q => (sb.2 _ zi1).trans q
    · exact h2'.1.at fun o q => (sb.2 _ zi2).trans q
    · have hqs : q < s.heap.objs.size := by
        have hq' := hq
        simp only [List.mem_cons, List.not_mem_nil, or_false] at hq'
        rcases hq' with r | r | r | r | r
        · rw [r]; exact hzl
        · rw [r]; exact Heap.lt_size hTI
        · rw [r]; exact Heap.lt_size hTO
        · rw [r]; obtain ⟨_, e, _⟩ := h1; exact Heap.lt_size e
        · rw [r]; obtain ⟨_, e, _⟩ := h2; exact Heap.lt_size e
      rw [upd_ne (Nat.ne_of_lt hqs)]
      exact (hf q hq).1
  done := by
    intro X hP hw hK hc i pins s σ H E I hf st hg
    subst hP hw hK
    obtain ⟨hin, hz, hTI, ⟨x0, y0, hTO⟩, h1, h2⟩ := st
    obtain ⟨xs, ys, hqx, hqy, l1, l2, hend, hni⟩ := hg
    obtain ⟨its, rv, p, _⟩ := I.tuple hqx
    obtain ⟨its2, rv2, p2, _⟩ := I.list hqy
    have hh : X.A.in1.handled = none := I.ok.hd hc
    have ne1 : a ≠ i1 := by obtain ⟨_, q, qc, _⟩ := id h1; exact tup_ne p q qc (by decide)
    have ne2 : b ≠ i2 := by obtain ⟨_, q, qc, _⟩ := id h2; exact lst_ne p2.isList q qc
    have r1 := rv.length
    have r2 := rv2.length
    refine wpAny_pyNext_zipD2_end D (Draws.tuple hh i1 a ne1 its.toArray) (Draws.list hh i2 b ne2 its2.toArray) hz hTI hTO ⟨h1, show s.heap.IsTuple a its.toArray from p⟩ ⟨h2, p2.isList⟩ (by simp; omega) (by simp; omega) (by simp; omega) fun h' tk hk => ?_
    exact ⟨rfl, I.turnedL (t' := tk) (ch := [z, TI, TO, i1, i2]) (fun q o hb e => hk q o (fun q' => hb (by simp [q'])) (fun q' => hb (by simp [q'])) (fun q' => hb (by simp [q'])) (fun q' => hb (by simp [q'])) e) hf⟩
  self := fun A i s Q E st h => wpAny_pyIter_zip st.2.1 h
def iZipMA (K : PySem.W.Frag) (ta : TA) : TI := fun σ H R => ta σ H fun vs H1 => ∃ n a b xs ys, vs = [.ref a, .ref b] ∧ SqT K H1 a xs ∧ SqL K H1 b ys ∧ R (ItzM K n a b) H1
theorem pi_zipM {X : Cx} {e e2 : Expr} {ta : TA} {p pos tpos : Pos} {elts : List Expr} {kk : Nat} (hg : Gl X "zip") (hm : X.mg "zip" = none) (ha : PA X [e, e2] ta)
    (hs : starEach [e, e2] X.env = (false, eval e X.env) :: starEach [e2] X.env := by rfl) (hpl : (backTo pos (starEach [e2] X.env)).any (·.1) = false := by rfl) :
    PI X (.Tuple elts kk tpos) (.Call (.Name "zip" p) [e, e2] [] pos) (iZipMA X.K ta) := by
  refine ⟨fun pins s σ H R I h => ?_⟩
  refine Call_ (ld_blt I hg hm boot_zip (PyProof.Rows.callWith_type1 (thn (ha.run pos pins s σ H _ I h) fun us s1 ⟨vs, H1, I1, r1, q1⟩ => ?_) hs hpl))
  obtain ⟨n, a, b, xs, ys, ex, hx, hy, q⟩ := q1
  subst ex
  obtain ⟨u1, u2, rfl, ra, rb⟩ : ∃ u1 u2, us = [u1, u2] ∧ RelV (.ref a) u1 ∧ RelV (.ref b) u2 := by
    cases r1 with
    | cons r rr =>
      cases rr with
      | cons r2 rr2 =>
        cases rr2
        exact ⟨_, _, rfl, r, r2⟩
  obtain rfl : u1 = .ref a := ra
  obtain rfl : u2 = .ref b := rb
  obtain ⟨i1, _, p1, _⟩ := I1.tuple hx
  obtain ⟨i2, _, p2, _⟩ := I1.list hy
  have lt : ∀ {t : Addr} {its : Array Value}, IsTup s1.heap t its → t < s1.heap.objs.size := fun ⟨_, e, _⟩ => Heap.lt_size e
  have lt2 : b < s1.heap.objs.size := by obtain ⟨_, e, _⟩ := p2.isList.typeIs; exact Heap.lt_size e
  refine zip_begins2 (begins_tuple a i1.toArray) (begins_list b i2.toArray) (show s1.heap.IsTuple a i1.toArray from p1) p2.isList fun h' hzp hTI hTO g1 g2 _ hk => wpAny_pyIter_zip hzp ?_
  refine ⟨s1.heap.objs.size + 4, [s1.heap.objs.size + 4, s1.heap.objs.size + 2, s1.heap.objs.size + 3, s1.heap.objs.size, s1.heap.objs.size + 1], _, _, H1, rfl, I1.kept (t' := s1.toks) hk,
    turn_zipM (zip_sep2 (fp1 := [a]) (fp2 := [b]) (by simpa using lt p1) (by simpa using lt2)), ⟨Nat.zero_le _, hzp, hTI, ⟨_, _, hTO⟩, ⟨_, g1, rfl, rfl⟩, ⟨_, g2, rfl, rfl⟩⟩, fun q hq => ?_, q⟩
  have hle : s1.heap.objs.size ≤ q := by
    simp only [List.mem_cons, List.not_mem_nil, or_false] at hq
    rcases hq with r | r | r | r | r <;> rw [r] <;> first | exact Nat.le_refl _ | exact Nat.le_add_right _ _
  exact I1.fpOk hle (I1.hok.fresh hle)
theorem zipD_len {xs ys : List PyData} : (zipD xs ys).length = min xs.length ys.length := by simp [zipD]
/-- zip of two tuples, of two lists, of a tuple and a list -/
def iZipM (f g : EF) (ρ : Rho) (μ : Mu) : Option (List PyData × Option Nat × Mu) := match f ρ μ with
  | some (.d (.tuple xs), μ1) => (match g ρ μ1 with
    | some (.d (.list ys), μ2) => some (zipD xs ys, none, μ2)
    | some (.d (.tuple ys), μ2) => some (zipD xs ys, none, μ2)
    | _ => none)
  | some (.d (.list xs), μ1) => (match g ρ μ1 with
    | some (.d (.list ys), μ2) => some (zipD xs ys, none, μ2)
    | _ => none)
  | _ => none
theorem ij_zipM {X : Cx} {e e2 : Expr} {elts : List Expr} {kk : Nat} {f g : EF} {p pos tpos : Pos} (hm : X.mg "zip" = none) (he : PE X e (tE X.K f)) (he2 : PE X e2 (tE X.K g)) (hg : Gl X "zip" := by rfl)
    (hs : starEach [e, e2] X.env = (false, eval e X.env) :: starEach [e2] X.env := by rfl) (hs2 : starEach [e2] X.env = (false, eval e2 X.env) :: starEach [] X.env := by rfl) (hpl : (backTo pos (starEach [e2] X.env)).any (·.1) = false := by rfl) :
    PI X (.Tuple elts kk tpos) (.Call (.Name "zip" p) [e, e2] [] pos) (VL.tI X.K (iZipM f g)) := ⟨fun pins s σ H R I ⟨φ, ρ, μ, ds, src, μ', rs, e, k⟩ => by
  unfold iZipM at e
  split at e
  · rename_i xs μ1 e1
    split at e
    · rename_i ys μ2 e2
      cases e
      have ea : aCons f (aCons g aNil) ρ μ = some ([.d (.tuple xs), .d (.list ys)], μ') := by simp only [aCons, aNil, e1, e2]; rfl
      refine (pi_zipM hg hm (aj_cons he (aj_cons he2 aj_nil hs2) hs) hs hpl).run pins s σ H R I ⟨φ, ρ, μ, _, _, rs, ea, fun φ1 vs H1 g1 c1 r1 => ?_⟩
      obtain ⟨u, v, rfl, ⟨a, us, q1, h1, s1⟩, q2⟩ := rvs2 r1
      obtain ⟨b, vs, q3, _, h2, s2⟩ := id q2
      subst q1 q3
      refine ⟨min xs.length ys.length, a, b, us, vs, rfl, h1, SqL.of h2, k φ1 _ H1 g1 c1 fun φ' H' μ2 g c' _ i => ?_⟩
      have h1' := g.sqT h1
      have s1' := DaAll.step g _ _ s1
      obtain ⟨b', vs', q4, _, h2', s2'⟩ := Da.step g (.list ys) _ q2
      cases q4
      have l1 := s1'.len
      have l2 := s2'.len
      refine ⟨fun d e => ?_, fun hl => ⟨us, vs', h1', SqL.of h2', by omega, by omega, by omega, by rw [zipD_len] at hl; exact hl⟩⟩
      have hlt : i < min xs.length ys.length := by
        have := (List.getElem?_eq_some_iff.mp e).1
        rwa [zipD_len] at this
      obtain ⟨d1, d2, e4, e5, rfl⟩ := zipD_get e
      obtain ⟨z1, f1, f2⟩ := s1'.get e4
      obtain ⟨z2, f3, f4⟩ := s2'.get e5
      refine ⟨⟨us, vs', z1, z2, h1', SqL.of h2', f1, f3, hlt⟩, fun x H'' hy => ?_⟩
      obtain ⟨T, x1, x2, rfl, hT, rfl, q1, q2⟩ := hy
      have w1 := q1 us h1'
      have w2 := q2 vs' (SqL.of h2')
      rw [f1] at w1; cases w1
      rw [f3] at w2; cases w2
      exact ⟨Grow.laid hT, c'.laid hT, pair_da hT f2 f4⟩
    · rename_i ys μ2 e2
      cases e
      exact (ij_zip hm he he2 hg hs hs2 hpl).run pins s σ H R I ⟨φ, ρ, μ, _, _, _, rs, by unfold VL.iZip; rw [e1]; dsimp only; rw [e2], k⟩
    · cases e
  · rename_i xs μ1 e1
    split at e
    · rename_i ys μ2 e2
      cases e
      exact (ij_zip hm he he2 hg hs hs2 hpl).run pins s σ H R I ⟨φ, ρ, μ, _, _, _, rs, by unfold VL.iZip; rw [e1]; dsimp only; rw [e2], k⟩
    · cases e
  · cases e⟩
/-! math.lcm -/
def lcmB (a b : Int) : Bool := decide (a.natAbs.log2 < 8000) && (decide (b.natAbs.log2 < 8000) && decide ((a.natAbs.lcm b.natAbs).log2 < bitsLine))
@[simp] def oLcmB (_ : Mu) (ws : List Vw) : Option Vw := match ws with
  | [.d (.int i), .d (.int j)] => if lcmB i j = true then some (.d (.int (i.natAbs.lcm j.natAbs : Nat))) else none
  | _ => none
theorem oLcmB_ok {K : PySem.W.Frag} : OL K rLcm oLcmB := by
  intro φ H μ ws w vs Q c r e k
  unfold oLcmB at e
  split at e
  · rename_i i j
    split at e
    · rename_i h0
      cases e
      obtain ⟨u, v, rfl, h, h2⟩ := rvs2 r
      cases h
      cases h2
      unfold lcmB at h0
      simp only [Bool.and_eq_true, decide_eq_true_eq] at h0
      exact ⟨i, j, rfl, ⟨h0.1, h0.2.1, h0.2.2⟩, post_here k c rfl⟩
    · cases e
  · cases e
end VY
end
section
set_option Elab.async false
set_option linter.all false
set_option maxRecDepth 100000
/-! texts put together; a dict with content -/
namespace VY
open PySem PySem.Spec PyProof.Rows L2 VL
variable [LawTabs]
def catB (a b : Str) : Bool := decide (a.length + b.length ≤ 1000000)
@[simp] def oCat (μ : Mu) (x y : Vw) : Option Vw := match x, y with
  | .d (.str a), .d (.str b) => bif catB a b then some (.d (.str (a ++ b))) else none
  | _, _ => none
def rCatS : R2 := fun x y H Q => ∃ i j, x = .str i ∧ y = .str j ∧ i.length + j.length ≤ sizeLine ∧ Q (.str (i ++ j)) H
theorem oCat_ok {K : PySem.W.Frag} : O2 K rCatS oCat := by
  intro φ H μ x y w u v Q c rx ry e k
  unfold oCat at e
  split at e
  · rename_i a b
    cases hc : catB a b with
    | false => rw [hc] at e; cases e
    | true =>
      rw [hc] at e
      cases e
      exact ⟨a, b, rx, ry, size_ok (of_decide_eq_true hc), post_here k c rfl⟩
  · cases e
section
variable {X : Cx} {W : WX} {a b : Expr} {pos : Pos} {Z : Ph → Hp → L2.St → Prop}
theorem yj_cat {f g : EX} (ha : PE X a (tX X.K W f)) (hb : PE X b (tX X.K W g)) : PE X (.BinOp a .Add b pos) (tX X.K W (xB2 oCat f g)) := yj_op op_add_str oCat_ok ha hb
theorem tz_cat (hZ : Stb Z) {s t : Str} (ha : PE X a (tZ X.K Z (.str s))) (hb : PE X b (tZ X.K Z (.str t))) (hc : catB s t = true) : PE X (.BinOp a .Add b pos) (tZ X.K Z (.str (s ++ t))) :=
  PE.to (pe_op op_add_str ha hb) fun σ H Q ⟨φ, μ, c, z, k⟩ => ⟨φ, μ, c, z, fun φ1 u H1 g1 c1 r1 => ⟨φ1, μ, c1, hZ _ _ _ _ _ g1 z, fun φ2 v H2 g2 c2 r2 =>
    ⟨s, t, r1, r2, size_ok (of_decide_eq_true hc), k φ2 _ H2 (g1.trans g2) c2 rfl⟩⟩⟩
/-- repr with a word ahead of it -/
def reprOkC (s : Str) (p : PyData) : Bool := reprOk p && catB s p.shown
theorem rok1 {s : Str} {p : PyData} (h : reprOkC s p = true) : reprOk p = true := (Bool.and_eq_true_iff.mp h).1
theorem rok2 {s : Str} {p : PyData} (h : reprOkC s p = true) : catB s p.shown = true := (Bool.and_eq_true_iff.mp h).2
/-- {1: 2} -/
theorem yj_dc1 {i j : Int} {j1 j2 : Nat} {p1 p2 : Pos} : PE X (.Dict [some (.Constant (.int i) j1 p1)] [.Constant (.int j) j2 p2] pos) (tX X.K W (xC (.dict dictD))) :=
  PE.to (pe_disp (pps_cons pe_int pe_int pps_nil) rfl rfl (by simp) (by simp)) fun σ H Q ⟨φ, ρ, μ, rs, k⟩ => fun p hp => by
  refine ⟨upd_same, [(.inl i, .int j)], rfl, by simp, ?_⟩
  rw [upd_upd]
  exact k φ _ _ (Grow.laid hp) (rs.c.laid hp) (.inr (.inr (.inl ⟨rfl, p, rfl, .inl ⟨_, upd_same⟩⟩)))
/-! a tuple times an int, of any size that may be -/
def rRepB (K : PySem.W.Frag) : R2 := fun x y H Q => ∃ l k xs, x = .ref l ∧ y = .int k ∧ SqT K H l xs ∧ xs ≠ [] ∧ 2 ≤ k ∧ xs.length * k.toNat ≤ 1000000 ∧ ∀ p, H p = none → Q (.ref p) (upd H p (.tup (List.replicate k.toNat xs).flatten))
theorem op_repB : OpR X (binaryOp .Mult) (rRepB X.K) := fun pins s σ H x y v u Q I rx ry ⟨l, k, xs, ex, ey, hT, hne, h1, hz, q⟩ => by
  subst ex ey; cases rx; obtain ⟨t, rfl⟩ := ry
  obtain ⟨its, r, ⟨⟨cls, dd, data, sl⟩, ho, hc, n, hd⟩, hs⟩ := I.tuple hT
  simp only at hc hd; subst hc hd
  have hle := r.length
  have hi : its.toArray.isEmpty = false := by
    cases its with
    | nil => exact absurd (List.eq_nil_of_length_eq_zero hle) hne
    | cons a b => rfl
  have hzi : ((xs.length : Nat) : Int) * k ≤ 1000000 := by
    have e : k = ((k.toNat : Nat) : Int) := by omega
    rw [e, ← Int.natCast_mul]; exact Int.ofNat_le.mpr hz
  have hk : k ≤ 1000000 := by
    have h2 : 1 ≤ xs.length := List.length_pos_iff.mpr hne
    have h3 : 1 * k.toNat ≤ xs.length * k.toNat := Nat.mul_le_mul_right _ h2
    omega
  have hm : ((its.toArray.size : Nat) : Int) * k ≤ 1000000 := by rw [List.size_toArray, ← hle]; exact hzi
  have fl : (List.replicate k.toNat its).flatten.length ≤ sizeLine := by rw [lm_len_rep_flat, ← hle, Nat.mul_comm]; exact size_ok hz
  have fx : (List.replicate k.toNat xs).flatten.length ≤ sizeLine := by rw [lm_len_rep_flat, Nat.mul_comm]; exact size_ok hz
  have c0 : (decide (k < -(2 ^ 63)) || decide (k ≥ 2 ^ 63)) = false := by simp; omega
  have c1 : (its.toArray.isEmpty || k == 1) = false := by rw [hi, Bool.false_or, beq_eq_false_iff_ne]; omega
  have c2 : (decide (k ≤ 0) || its.toArray.isEmpty) = false := by rw [hi, Bool.or_false, decide_eq_false_iff_not]; omega
  have c4 : Builtin.Tuple.tupleTooMany (((its.toArray.size : Nat) : Int) * k) = false := by
    unfold Builtin.Tuple.tupleTooMany; rw [sizeLine_eq, decide_eq_false_iff_not]; omega
  refine wpAny_binaryOp_repeat_ref (T := "tuple") (U := "int") (by decide) ⟨_, ho, rfl⟩ (fun s' => typeIs_int s' k t) noFill_tuple_mul F.fills_int_mul F.slot_int_rmul repeat_tuple F.slot_int_index.lookup
    (call_meets F.slot_int_rmul (typeIs_int s k t) F.entry_int_rmul (F.args_int_rmul_2 _ _) (int_rmul_tuple k t l its.toArray n dd sl) ⟨ho, rfl, ⟨_, ho, rfl⟩, call_meets F.slot_tuple_mul ⟨_, ho, rfl⟩ F.entry_tuple_mul (F.args_tuple_mul_2 _ _)
      (tuple_mulW l its.toArray n dd sl k t c0 c1 c2 (by omega) c4 (by rw [size_rep, List.size_toArray]; exact fl)) ⟨ho, ?_⟩⟩)
  rw [size_rep]
  exact ⟨.ref s.heap.objs.size, _, I.laid (t' := s.toks) (o := .tup (List.replicate k.toNat xs).flatten) (fun b ob q => Heap.get?_push_of_some _ q) (Nat.le_refl _) ⟨fx, _, r.rep k.toNat, IsTup.new _ _⟩, rfl, q _ (I.hok.fresh (Nat.le_refl _))⟩
@[simp] def oRepB (_ : Mu) (x y : Vw) : Option Vw := match x, y with
  | .d (.tuple ds), .d (.int k) => bif decide (2 ≤ k ∧ 0 < ds.length ∧ ds.length * k.toNat ≤ 1000000) then some (.d (.tuple (List.replicate k.toNat ds).flatten)) else none
  | _, _ => none
theorem oRepB_ok {K : PySem.W.Frag} : O2 K (rRepB K) oRepB := by
  intro φ H μ x y w u v Q c rx ry e k
  unfold oRepB at e
  split at e
  · rename_i ds i
    cases hb : decide (2 ≤ i ∧ 0 < ds.length ∧ ds.length * i.toNat ≤ 1000000) with
    | false => rw [hb] at e; cases e
    | true =>
      rw [hb] at e; cases e
      have h := of_decide_eq_true hb
      obtain ⟨a, xs, rfl, h1, h2⟩ := rx
      cases ry
      have hl := h2.len
      exact ⟨a, i, xs, rfl, rfl, h1, fun z => by rw [z] at hl; simp at hl; rw [hl] at h; simp at h, h.1, by rw [← hl]; exact h.2.2, new_tup c (da_rep h2 _) k⟩
  · cases e
theorem yj_repB {f g : EX} (ha : PE X a (tX X.K W f)) (hb : PE X b (tX X.K W g)) : PE X (.BinOp a .Mult b pos) (tX X.K W (xB2 oRepB f g)) := yj_op op_repB oRepB_ok ha hb
end
end VY
end
section
set_option Elab.async false
set_option linter.all false
set_option maxRecDepth 100000
set_option maxHeartbeats 2000000
/-! objects of own classes that never change: data .dict (("ob", C) :: fields) -/
namespace VY
open PySem PySem.Spec PyProof.Rows L2 VL
variable [LawTabs]
abbrev obD (C : Str) (fs : List (PyData × PyData)) : PyData := .dict ((.str "ob", .str C) :: fs)
def obC : Vw → Option (Str × List (PyData × PyData))
  | .d (.dict ((.str q, .str C) :: fs)) => bif decide (q = "ob") then some (C, fs) else none
  | _ => none
def isOb : Vw → Bool
  | .d (.dict ((.str q, .str _) :: _)) => decide (q = "ob")
  | _ => false
def fldD (f : Str) : List (PyData × PyData) → Option PyData
  | [] => none
  | (.str k, d) :: r => bif decide (k = f) then some d else fldD f r
  | _ :: _ => none
def setF (f : Str) (p : PyData) : List (PyData × PyData) → List (PyData × PyData)
  | [] => [(.str f, p)]
  | (.str k, d) :: r => bif decide (k = f) then (.str k, p) :: r else (.str k, d) :: setF f p r
  | q :: r => q :: r
section
variable {K : PySem.W.Frag} {φ φ' : Ph} {A : List Addr} {H H' : Hp}
theorem obC_eq {w : Vw} {C : Str} {fs : List (PyData × PyData)} (h : obC w = some (C, fs)) : w = .d (obD C fs) := by
  unfold obC at h
  split at h
  · rename_i q C' fs'
    cases hq : decide (q = "ob") with
    | false => rw [hq] at h; cases h
    | true =>
      rw [hq] at h
      cases h
      rw [of_decide_eq_true hq]
  · cases h
theorem Da.ob {C : Str} {fs : List (PyData × PyData)} {v : V} (h : Da K A H (obD C fs) v) : ∃ a dx xs, v = .ref a ∧ a ∉ A ∧ H a = some (.ins (He.ga K C) dx xs) ∧ DaFs K A H fs xs := by
  rcases h with ⟨z, _⟩ | ⟨y, z, _⟩ | ⟨z, _⟩ | ⟨C', a, dx, xs, _, e2, h⟩
  · cases z
  · have z' : ("ob" : Str) = "def" := by injection z with z1 z2; injection z1 with z3 z4; injection z3
    exact absurd z' (by decide)
  · simp at z
  · cases e2; exact ⟨a, dx, xs, h⟩
theorem DaFs.get {f : Str} {d : PyData} : ∀ {fs : List (PyData × PyData)} {xs : List (Str × V)}, DaFs K A H fs xs → fldD f fs = some d → ∃ v, xs.lookup f = some v ∧ Da K A H d v
  | [], _, _, e => by cases e
  | (k, p) :: r, _, ⟨g, v, ys, ek, ex, h, hs⟩, e => by
    subst ek ex
    unfold fldD at e
    cases hq : decide (g = f) with
    | true =>
      rw [hq] at e
      cases e
      have := of_decide_eq_true hq
      subst this
      exact ⟨v, by simp [List.lookup], h⟩
    | false =>
      rw [hq] at e
      obtain ⟨u, h1, h2⟩ := DaFs.get hs e
      have hn : (f == g) = false := beq_eq_false_iff_ne.mpr fun z => of_decide_eq_false hq z.symm
      exact ⟨u, by simp [List.lookup, hn, h1], h2⟩
theorem DaFs.noget {f : Str} : ∀ {fs : List (PyData × PyData)} {xs : List (Str × V)}, DaFs K A H fs xs → fldD f fs = none → xs.lookup f = none
  | [], _, h, _ => by rw [show _ = _ from h]; rfl
  | (k, p) :: r, _, ⟨g, v, ys, ek, ex, h, hs⟩, e => by
    subst ek ex
    unfold fldD at e
    cases hq : decide (g = f) with
    | true => rw [hq] at e; cases e
    | false =>
      rw [hq] at e
      have hn : (f == g) = false := beq_eq_false_iff_ne.mpr fun z => of_decide_eq_false hq z.symm
      simp [List.lookup, hn, DaFs.noget hs e]
theorem DaFs.set {f : Str} {p : PyData} {y : V} (hp : Da K A H p y) : ∀ {fs : List (PyData × PyData)} {xs : List (Str × V)}, DaFs K A H fs xs → DaFs K A H (setF f p fs) (putF f y xs)
  | [], _, h => by rw [show _ = _ from h]; exact ⟨f, y, [], rfl, rfl, hp, rfl⟩
  | (k, d) :: r, _, ⟨g, v, ys, ek, ex, h, hs⟩ => by
    subst ek ex
    unfold setF putF
    by_cases hg : g = f
    · rw [if_pos hg, decide_eq_true hg]
      exact ⟨g, y, ys, rfl, rfl, hp, hs⟩
    · rw [if_neg hg, decide_eq_false hg]
      exact ⟨g, v, _, rfl, rfl, h, DaFs.set hp hs⟩
theorem DaFs.len : ∀ {fs : List (PyData × PyData)} {xs : List (Str × V)}, DaFs K A H fs xs → fs.length = xs.length
  | [], _, h => by rw [show _ = _ from h]; rfl
  | (k, d) :: r, _, ⟨g, v, ys, ek, ex, h, hs⟩ => by rw [ex, List.length_cons, List.length_cons, DaFs.len hs]
end
/-! ### what is known of the classes -/
structure ObF (K : PySem.W.Frag) (OC : List Str) : Prop where
  cls : ∀ C ∈ OC, Cls K (He.ga K C)
  ha : ∀ C ∈ OC, PySem.W.findIn K (.ref (He.ga K C)) "__class__" = some (some (.builtin "object.__class__"))
  hm : ∀ C ∈ OC, PySem.W.mroIn K (He.ga K C) (.type "object") = some true
  hn : PySem.W.specialIn K (.builtin "object.__class__") "__get__" = some (some (.builtin "getset_descriptor.__get__"))
  htk : PySem.W.takesIn K (.builtin "object.__class__") = some true
  kit : ∀ C ∈ OC, ∀ D ∈ OC, PySem.W.kitOne K (.ref (He.ga K C)) (.ref (He.ga K D)) = some (decide (C = D))
  kib : ∀ C ∈ OC, ∀ T ∈ tyNs, PySem.W.kitOne K (.type T) (.ref (He.ga K C)) = some false
  kbi : ∀ C ∈ OC, ∀ T ∈ tyNs, PySem.W.kitOne K (.ref (He.ga K C)) (.type T) = some false
def obB (K : PySem.W.Frag) (OC : List Str) : Bool := (OC.all fun C => PySem.W.plainGet K (He.ga K C) Str.empty && (PySem.W.hasDictIn K (He.ga K C) && (PySem.W.plainOver K (He.ga K C) && He.eqO (PySem.W.findIn K (.ref (He.ga K C)) "__setattr__") (some (some (.builtin "object.__setattr__")))))) &&
  ((OC.all fun C => He.eqO (PySem.W.findIn K (.ref (He.ga K C)) "__class__") (some (some (.builtin "object.__class__")))) && ((OC.all fun C => decide (PySem.W.mroIn K (He.ga K C) (.type "object") = some true)) &&
  (He.eqO (PySem.W.specialIn K (.builtin "object.__class__") "__get__") (some (some (.builtin "getset_descriptor.__get__"))) && (decide (PySem.W.takesIn K (.builtin "object.__class__") = some true) &&
  ((OC.all fun C => OC.all fun D => decide (PySem.W.kitOne K (.ref (He.ga K C)) (.ref (He.ga K D)) = some (decide (C = D)))) && ((OC.all fun C => tyNs.all fun T => decide (PySem.W.kitOne K (.type T) (.ref (He.ga K C)) = some false)) &&
  (OC.all fun C => tyNs.all fun T => decide (PySem.W.kitOne K (.ref (He.ga K C)) (.type T) = some false))))))))
theorem obB_ok {K : PySem.W.Frag} {OC : List Str} (h : obB K OC = true) : ObF K OC := by
  unfold obB at h
  obtain ⟨h1, h⟩ := He.ba h
  obtain ⟨h2, h⟩ := He.ba h
  obtain ⟨h3, h⟩ := He.ba h
  obtain ⟨h4, h⟩ := He.ba h
  obtain ⟨h5, h⟩ := He.ba h
  obtain ⟨h6, h⟩ := He.ba h
  obtain ⟨h7, h8⟩ := He.ba h
  refine ⟨fun C hC => ?_, fun C hC => He.eqO_ok (List.all_eq_true.mp h2 C hC), fun C hC => of_decide_eq_true (List.all_eq_true.mp h3 C hC), He.eqO_ok h4, of_decide_eq_true h5, fun C hC D hD => of_decide_eq_true (List.all_eq_true.mp (List.all_eq_true.mp h6 C hC) D hD),
    fun C hC T hT => of_decide_eq_true (List.all_eq_true.mp (List.all_eq_true.mp h7 C hC) T hT), fun C hC T hT => of_decide_eq_true (List.all_eq_true.mp (List.all_eq_true.mp h8 C hC) T hT)⟩
  obtain ⟨c1, c⟩ := He.ba (List.all_eq_true.mp h1 C hC)
  obtain ⟨c2, c⟩ := He.ba c
  obtain ⟨c3, c4⟩ := He.ba c
  exact ⟨c1, c2, c3, He.eqO_ok c4⟩
theorem ObF.ty {K : PySem.W.Frag} {OC : List Str} (F : ObF K OC) {A : List Addr} {H : Hp} {C : Str} {fs : List (PyData × PyData)} {v : V} (hC : C ∈ OC) (h : Da K A H (obD C fs) v) : TyX K H v (.ref (He.ga K C)) := by
  obtain ⟨a, dx, xs, e, _, h1, _⟩ := VY.Da.ob h
  subst e
  exact .base (.ins h1 (F.cls C hC) (F.ha C hC) F.hn F.htk (F.hm C hC))
/-! ### a field -/
@[simp] def xFld (OC : List Str) (f : Str) (g : EX) (ρ : Rho) (μ : Mu) : RM Vw := bd (g ρ μ) fun w μ1 => match obC w with
  | some (C, fs) => bif OC.contains C then lf ((fldD f fs).map Vw.d) μ1 else none
  | none => none
section
variable {X : Cx} {W : WX} {e : Expr} {pos p p2 : Pos} {f x : Str}
theorem yj_fld {OC : List Str} {g : EX} (F : ObF X.K OC) (hn : ∀ C ∈ OC, NoAttr X.K (He.ga X.K C) f) (he : PE X e (tX X.K W g)) (hb : attributeBase e f X.env (eval e X.env) = eval e X.env := by rfl) : PE X (.Attribute e f pos) (tX X.K W (xFld OC f g)) :=
  PE.to (pe_fld he hb) fun σ H Q ⟨φ, ρ, μ, rs, k⟩ => by
  refine ⟨φ, ρ, μ, rs, RsP.bd k fun w μ1 _ k1 φ1 v H1 g1 c1 r1 => ?_⟩
  split at k1
  · rename_i C fs hw
    have hw := obC_eq hw
    subst hw
    cases hc : OC.contains C with
    | false => rw [hc] at k1; exact k1.elim
    | true =>
      rw [hc] at k1
      have hC : C ∈ OC := List.contains_iff_mem.mp hc
      obtain ⟨d, e1, q⟩ := RsP.lf k1
      obtain ⟨d', e2, e3⟩ := Option.map_eq_some_iff.mp e1
      subst e3
      obtain ⟨a, dx, xs, ev, _, h1, hs⟩ := Da.ob r1
      obtain ⟨u, h2, h3⟩ := VY.DaFs.get hs e2
      exact ⟨a, He.ga X.K C, dx, xs, u, ev, h1, F.cls C hC, hn C hC, h2, q φ1 u H1 g1 c1 h3⟩
  · exact k1.elim
/-! ### isinstance -/
@[simp] def xIsB (OC : List Str) (T : String) (f : EX) (ρ : Rho) (μ : Mu) : RM Vw := bd (f ρ μ) fun w μ1 => match obC w with
  | some (C, _) => bif OC.contains C then some (.ok (.d (.bool false)) μ1) else none
  | none => bif isRg w then none else some (.ok (.d (.bool (isaB (tyN w) T))) μ1)
@[simp] def xIsC (OC : List Str) (D : Str) (f : EX) (ρ : Rho) (μ : Mu) : RM Vw := bd (f ρ μ) fun w μ1 => match obC w with
  | some (C, _) => bif OC.contains C then some (.ok (.d (.bool (decide (C = D)))) μ1) else none
  | none => bif isRg w then none else some (.ok (.d (.bool false)) μ1)
theorem yj_isB {OC : List Str} (F : ObF X.K OC) (T : String) (hT : T ∈ tyNs) {g : EX} (hk : ∀ a ∈ tyNs, kitB a T = some (isaB a T)) (hm : X.mg "isinstance" = none) (hm2 : X.mg x = none) (he : PE X e (tX X.K W g)) (hv2 : bootBuiltins x = some (.type T)) (hg : Gl X "isinstance" := by rfl) (hg2 : Gl X x := by rfl)
    (hn2 : x ≠ "__name__" := by decide) (hd2 : (x == ("__debug__" : Str)) = false := by decide) (hs1 : starEach [e, .Name x p2] X.env = (false, eval e X.env) :: starEach [.Name x p2] X.env := by rfl) (hs2 : starEach [.Name x p2] X.env = (false, eval (.Name x p2) X.env) :: starEach [] X.env := by rfl)
    (hpl : (backTo pos (starEach [.Name x p2] X.env)).any (·.1) = false := by rfl) : PE X (.Call (.Name "isinstance" p) [e, .Name x p2] [] pos) (tX X.K W (xIsB OC T g)) :=
  PE.to (pe_callB call_isi hg hm (by decide +kernel) (pa_cons he (pa_cons (pe_bltn (v := .ty T) hg2 hm2 hv2 rfl hn2 hd2) pa_nil hs2) hs1) (by decide) (by decide) hs1 hpl) fun σ H Q ⟨φ, ρ, μ, rs, k⟩ => by
  refine ⟨φ, ρ, μ, rs, RsP.bd k fun z μ1 _ k1 φ1 v H1 g1 c1 r1 => ?_⟩
  split at k1
  · rename_i C fs hw
    have hw := obC_eq hw
    subst hw
    cases hc : OC.contains C with
    | false => rw [hc] at k1; exact k1.elim
    | true =>
      rw [hc] at k1
      have hC : C ∈ OC := List.contains_iff_mem.mp hc
      exact ⟨v, .ty T, _, _, _, rfl, .ty T, F.ty hC r1, F.kbi C hC T hT, k1 φ1 _ H1 g1 c1 rfl⟩
  · cases hr : isRg z with
    | true => rw [hr] at k1; exact k1.elim
    | false =>
      rw [hr] at k1
      have hr' : ¬ isRg z = true := by rw [hr]; decide
      exact ⟨v, .ty T, _, _, _, rfl, .ty T, tyN_ok c1 r1 hr', kit_ty (hk _ (tyN_mem z hr')), k1 φ1 _ H1 g1 c1 rfl⟩
theorem yj_isC {OC : List Str} {D : Str} (F : ObF X.K OC) (hD : D ∈ OC) {g : EX} (hm : X.mg "isinstance" = none) (hm2 : X.mg D = some (.ref (He.ga X.K D))) (he : PE X e (tX X.K W g)) (hg : Gl X "isinstance" := by rfl) (hg2 : Gl X D := by rfl)
    (hd2 : (D == ("__debug__" : Str)) = false := by decide) (hs1 : starEach [e, .Name D p2] X.env = (false, eval e X.env) :: starEach [.Name D p2] X.env := by rfl) (hs2 : starEach [.Name D p2] X.env = (false, eval (.Name D p2) X.env) :: starEach [] X.env := by rfl)
    (hpl : (backTo pos (starEach [.Name D p2] X.env)).any (·.1) = false := by rfl) : PE X (.Call (.Name "isinstance" p) [e, .Name D p2] [] pos) (tX X.K W (xIsC OC D g)) :=
  PE.to (pe_callB call_isi hg hm (by decide +kernel) (pa_cons he (pa_cons (pe_glob (v := .ref (He.ga X.K D)) hg2 hm2 rfl hd2) pa_nil hs2) hs1) (by decide) (by decide) hs1 hpl) fun σ H Q ⟨φ, ρ, μ, rs, k⟩ => by
  refine ⟨φ, ρ, μ, rs, RsP.bd k fun z μ1 _ k1 φ1 v H1 g1 c1 r1 => ?_⟩
  split at k1
  · rename_i C fs hw
    have hw := obC_eq hw
    subst hw
    cases hc : OC.contains C with
    | false => rw [hc] at k1; exact k1.elim
    | true =>
      rw [hc] at k1
      have hC : C ∈ OC := List.contains_iff_mem.mp hc
      exact ⟨v, .ref (He.ga X.K D), _, _, _, rfl, .own _, F.ty hC r1, F.kit C hC D hD, k1 φ1 _ H1 g1 c1 rfl⟩
  · cases hr : isRg z with
    | true => rw [hr] at k1; exact k1.elim
    | false =>
      rw [hr] at k1
      have hr' : ¬ isRg z = true := by rw [hr]; decide
      exact ⟨v, .ref (He.ga X.K D), _, _, _, rfl, .own _, tyN_ok c1 r1 hr', F.kib D hD _ (tyN_mem z hr'), k1 φ1 _ H1 g1 c1 rfl⟩
end
end VY
end
section
set_option Elab.async false
set_option linter.all false
set_option maxRecDepth 100000
set_option maxHeartbeats 2000000
/-! methods, properties, new objects -/
namespace VY
open PySem PySem.Spec PyProof.Rows L2 VL
variable [LawTabs]
theorem RoomG.in1 {k : Nat} {A : Around} (r : RoomG (k + 1) A) : RoomG k A.in1 := ⟨r.r.in1, r.gd⟩
theorem RoomG.make {k : Nat} {A : Around} (r : RoomG (k + 1) A) (C : Addr) (us : List Value) (kw : List (Str × Value)) : RoomG k (A.under (.builtin "type.__call__" ⟨.ref C :: us, kw⟩)) := by
  refine ⟨r.r.make C us kw, ?_⟩
  have : Code.guards (.builtin "type.__call__" ⟨.ref C :: us, kw⟩) = [] := by
    unfold Code.guards Code.isGuard
    exact if_neg (show ¬ guardIds.contains "type.__call__" = true by decide)
  unfold Around.under
  simp only [r.gd, this]
  rfl
theorem noCXs {P : Program} {w : World} {st : List Env} {H : Hp} {s : Shared} {e : Value} {s' : Shared} (h : L2.CX P w st H s (fun _ _ _ => False) e s') : False := by
  obtain ⟨a, B, H', cls, d, e1, h1, h2, h3, h4, h5, h6, z⟩ := h
  exact z
section
variable (P : Program) (w : World) (K : PySem.W.Frag) (mg : Str → Option Value) (base : Heap)
/-- a method m of the class C -/
structure CalM (k : Nat) (C m : Str) (n : Nat) (mir : YM) : Prop where
  ex : ∃ fd ps, FnG P w K mg base k (He.ma K (He.ga K C) m) fd ps (spY K n mir) ∧ Binds K fd ps []
  mt : Meth K (He.ga K C) m (He.ma K (He.ga K C) m)
/-- a property f of the class C -/
structure CalP (k : Nat) (C f : Str) (mir : YM) : Prop where
  ex : ∃ fd ps, FnG P w K mg base k (He5.wf K (He.ga K C) "property" f) fd ps (spY K 1 mir) ∧ Binds K fd ps []
  pr : PropOf K (He.ga K C) f (He.ma K (He.ga K C) f) (He5.wf K (He.ga K C) "property" f)
/-- a new object at x: none of its fields leads to it -/
def ObX (K : PySem.W.Frag) (A : List Addr) (H : Hp) (w : Vw) (x : Addr) : Prop := ∃ C fs dx vs, w = .d (obD C fs) ∧ x ∉ A ∧ H x = some (.ins (He.ga K C) dx vs) ∧ DaFs K (x :: A) H fs vs
theorem ObX.weak {K : PySem.W.Frag} {A A' : List Addr} {H : Hp} {w : Vw} {x : Addr} (hs : ∀ a ∈ A, a ∈ A') : ObX K A' H w x → ObX K A H w x := fun ⟨C, fs, dx, vs, e, hn, h, hd⟩ =>
  ⟨C, fs, dx, vs, e, fun z => hn (hs x z), h, DaFs.weak (fun a ha => (List.mem_cons.mp ha).elim (fun z => List.mem_cons.mpr (.inl z)) fun z => List.mem_cons_of_mem _ (hs a z)) _ _ hd⟩
theorem ObX.rv {K : PySem.W.Frag} {φ : Ph} {H : Hp} {w : Vw} {x : Addr} : ObX K φ.av H w x → RV K φ H w (.ref x) := fun ⟨C, fs, dx, vs, e, hn, h, hd⟩ => by
  subst e
  exact .inr (.inr (.inr ⟨C, x, dx, vs, rfl, rfl, rfl, hn, h, DaFs.weak (fun a ha => List.mem_cons_of_mem _ ha) _ _ hd⟩))
/-- what __init__ makes of a new object -/
def MP (K : PySem.W.Frag) (φ0 : Ph) (H0 : Hp) (x : Addr) (E : XK) (Q1 : VK) : RM Vw → Prop
  | some (.ok w _) => ∀ H', Grow φ0 φ0 H0 H' → Cells K φ0 H' [] → ObX K φ0.av H' w x → Q1 .non H'
  | some (.ex e _) => XP K φ0 H0 E e []
  | none => False
def spI (C : Str) (n : Nat) (m : YM) : Sp := fun vs H1 Q1 E => ∃ x dx vs' H0 φ0 ws, vs = .ref x :: vs' ∧ H1 = upd (upd H0 dx (.own x)) x (.ins (He.ga K C) dx []) ∧ H0 x = none ∧ H0 dx = none ∧ dx ≠ x ∧ Cells K φ0 H0 [] ∧ RVs K φ0 H0 ws vs' ∧ ws.length + 1 = n ∧ MP K φ0 H0 x E Q1 (m [] ws)
/-- a class C that may be called -/
structure CalK (k : Nat) (C : Str) (n : Nat) (mir : YM) : Prop where
  ex : ∃ fd ps, FnG P w K mg base k (He.ma K (He.ga K C) "__init__") fd ps (spI K C n mir) ∧ Binds K fd ps []
  mkr : Mk K (He.ga K C) (He.ma K (He.ga K C) "__init__")
  gl : mg C = some (.ref (He.ga K C))
end
section
variable {P : Program} {w : World} {K : PySem.W.Frag} {mg : Str → Option Value} {base : Heap} {j k : Nat} {C m f : Str} {n : Nat} {mir : YM}
theorem CalM.mono (c : CalM P w K mg base j C m n mir) (h : j ≤ k) : CalM P w K mg base k C m n mir := by
  obtain ⟨fd, ps, h1, h2⟩ := c.ex
  exact ⟨⟨fd, ps, h1.mono h, h2⟩, c.mt⟩
theorem CalP.mono (c : CalP P w K mg base j C f mir) (h : j ≤ k) : CalP P w K mg base k C f mir := by
  obtain ⟨fd, ps, h1, h2⟩ := c.ex
  exact ⟨⟨fd, ps, h1.mono h, h2⟩, c.pr⟩
theorem CalK.mono (c : CalK P w K mg base j C n mir) (h : j ≤ k) : CalK P w K mg base k C n mir := by
  obtain ⟨fd, ps, h1, h2⟩ := c.ex
  exact ⟨⟨fd, ps, h1.mono h, h2⟩, c.mkr, c.gl⟩
end
/-! ### o.m(..) -/
@[simp] def xMeth (L : Str → Option (Nat × YM)) (m : Str) (fo : EX) (fa : AX) (ρ : Rho) (μ : Mu) : RM Vw := bd (fo ρ μ) fun w μ1 => match obC w with
  | some (C, fs) => (match L C with
    | some (n, mir) => (match fldD m fs with
      | none => bd (fa ρ μ1) fun ws μ2 => if (w :: ws).length = n then cl mir μ2 (w :: ws) else none
      | some _ => none)
    | none => none)
  | none => none
section
variable {X : Cx} {W : WX} {k n : Nat} {C m f : Str} {e o : Expr} {es : List Expr} {fo : EX} {fa : AX} {apos p pos : Pos}
theorem yj_meth {L : Str → Option (Nat × YM)} {pl : Sem Bool} (tk : Takes X W) (c : ∀ C n mir, L C = some (n, mir) → Cls X.K (He.ga X.K C) ∧ CalM X.prog X.w X.K X.mg X.base k C m n mir) (hr : RoomG k X.A) (he : PE X o (tX X.K W fo)) (ha : PA X (e :: es) (tXA X.K W fa))
    (hst : starEach (e :: es) X.env = (false, eval e X.env) :: starEach es X.env := by rfl) (hpl : (backTo pos (starEach es X.env)).any (·.1) = false := by rfl)
    (ht : eval (.Call (.Attribute o m apos) (e :: es) [] pos) X.env = (do
      let ov ← eval o X.env
      standAt apos.atName
      let (f, first) ← holding [ov] (getMethod ov m pl)
      callWith pos f first (backTo pos (starEach (e :: es) X.env)) (backToKw pos (keywordEach [] X.env))) := by rfl) : PE X (.Call (.Attribute o m apos) (e :: es) [] pos) (tX X.K W (xMeth L m fo fa)) := by
  refine ⟨fun pins s σ H Q I ⟨φ, ρ, μ, rs, kk⟩ => ?_⟩
  refine PySem.W.methodCall_KW (pl := pl) (thn (he.run pins s σ H (fun v H1 => ∃ φ1 μ1 C n mir fs, Cells X.K φ1 H1 μ1 ∧ RS X.K φ1 σ H1 ρ μ1 ∧ RV X.K φ1 H1 (.d (obD C fs)) v ∧ L C = some (n, mir) ∧ fldD m fs = none ∧
      VP X.K φ1 H1 (WE W σ) Q (bd (fa ρ μ1) fun ws μ2 => if ((.d (obD C fs)) :: ws).length = n then cl mir μ2 ((.d (obD C fs)) :: ws) else none)) I ⟨φ, ρ, μ, rs, ?_⟩) fun u s1 ⟨v, H1, I1, rv, φ1, μ1, C, n, mir, fs, c1, rs1, r1, hL, hf, q⟩ => ?_) ht
  · refine RsP.bd kk fun w μ1 _ k1 φ1 v H1 g1 c1 r1 => ?_
    have k1 := VP.grow g1 k1
    split at k1
    · rename_i C fs hw
      have hw := obC_eq hw
      subst hw
      split at k1
      · rename_i n mir hL
        split at k1
        · rename_i hf
          exact ⟨φ1, μ1, C, n, mir, fs, c1, rs.step g1.w c1, r1, hL, hf, k1⟩
        · exact k1.elim
      · exact k1.elim
    · exact k1.elim
  obtain ⟨hC, cm⟩ := c C n mir hL
  obtain ⟨fd, ps, F, hb⟩ := cm.ex
  obtain ⟨a, dx, xs, ev, _, h1, hs⟩ := VY.Da.ob r1
  subst ev
  obtain rfl : u = Value.ref a := rv
  refine getmeth_ok I1 h1 hC cm.mt (VY.DaFs.noget hs hf) ?_
  refine PySem.W.callWith_K (first := [.ref a]) (h₀ := X.base) I.ok.mod.kin cm.mt.kp (thn (ha.run pos pins s1 σ H1 (fun vs H2 => spY X.K n mir (.ref a :: vs) H2 Q (WE W σ)) I1 ⟨φ1, ρ, μ1, rs1, ?_⟩) fun us s2 ⟨vs, H2, I2, r, q2⟩ => ⟨I2.kIn, ?_⟩) hst hpl
  · refine RsP.bd q fun ws μ2 _ k2 φ2 vs H2 g2 c2 r2 => ?_
    exact spY_of (ws := .d (obD C fs) :: ws) c2 ⟨_, vs, rfl, RV.step g2.w (.d (obD C fs)) _ r1, r2⟩ (VP.grow g2 k2)
  · exact run_fnG (us := .ref a :: us) (vs := .ref a :: vs) F hr hb (passAt tk σ) I2 (.cons rfl r) q2
theorem yj_meth0 {L : Str → Option (Nat × YM)} {pl : Sem Bool} (tk : Takes X W) (c : ∀ C n mir, L C = some (n, mir) → Cls X.K (He.ga X.K C) ∧ CalM X.prog X.w X.K X.mg X.base k C m n mir) (hr : RoomG k X.A) (he : PE X o (tX X.K W fo))
    (ht : eval (.Call (.Attribute o m apos) [] [] pos) X.env = (do
      let ov ← eval o X.env
      standAt apos.atName
      let (f, first) ← holding [ov] (getMethod ov m pl)
      callWith pos f first (backTo pos (starEach [] X.env)) (backToKw pos (keywordEach [] X.env))) := by rfl) : PE X (.Call (.Attribute o m apos) [] [] pos) (tX X.K W (xMeth L m fo xNil)) := by
  refine ⟨fun pins s σ H Q I ⟨φ, ρ, μ, rs, kk⟩ => ?_⟩
  refine PySem.W.methodCall_KW (pl := pl) (thn (he.run pins s σ H (fun v H1 => ∃ φ1 μ1 C n mir fs, Cells X.K φ1 H1 μ1 ∧ RV X.K φ1 H1 (.d (obD C fs)) v ∧ L C = some (n, mir) ∧ fldD m fs = none ∧
      VP X.K φ1 H1 (WE W σ) Q (if [Vw.d (obD C fs)].length = n then cl mir μ1 [.d (obD C fs)] else none)) I ⟨φ, ρ, μ, rs, ?_⟩) fun u s1 ⟨v, H1, I1, rv, φ1, μ1, C, n, mir, fs, c1, r1, hL, hf, q⟩ => ?_) ht
  · refine RsP.bd kk fun w μ1 _ k1 φ1 v H1 g1 c1 r1 => ?_
    have k1 := VP.grow g1 k1
    split at k1
    · rename_i C fs hw
      have hw := obC_eq hw
      subst hw
      split at k1
      · rename_i n mir hL
        split at k1
        · rename_i hf
          exact ⟨φ1, μ1, C, n, mir, fs, c1, r1, hL, hf, k1⟩
        · exact k1.elim
      · exact k1.elim
    · exact k1.elim
  obtain ⟨hC, cm⟩ := c C n mir hL
  obtain ⟨fd, ps, F, hb⟩ := cm.ex
  obtain ⟨a, dx, xs, ev, _, h1, hs⟩ := VY.Da.ob r1
  subst ev
  obtain rfl : u = Value.ref a := rv
  refine getmeth_ok I1 h1 hC cm.mt (VY.DaFs.noget hs hf) ?_
  exact PySem.W.callWith_K0 (first := [.ref a]) I1.kIn cm.mt.kp (run_fnG (us := [.ref a]) (vs := [.ref a]) F hr hb (passAt tk σ) I1 (.cons rfl .nil) (spY_of (ws := [.d (obD C fs)]) c1 ⟨_, [], rfl, r1, rfl⟩ q))
/-! ### o.f, a property (it does not raise) -/
@[simp] def xProp (L : Str → Option YM) (fo : EX) (ρ : Rho) (μ : Mu) : RM Vw := bd (fo ρ μ) fun w μ1 => match obC w with
  | some (C, _) => (match L C with
    | some mir => (match cl mir μ1 [w] with
      | some (.ok v μ2) => some (.ok v μ2)
      | _ => none)
    | none => none)
  | none => none
theorem yj_prop {L : Str → Option YM} (c : ∀ C mir, L C = some mir → Cls X.K (He.ga X.K C) ∧ CalP X.prog X.w X.K X.mg X.base k C f mir) (hr : RoomG (k + 1) X.A) (he : PE X o (tX X.K W fo)) (hb : attributeBase o f X.env (eval o X.env) = eval o X.env := by rfl) : PE X (.Attribute o f pos) (tX X.K W (xProp L fo)) := by
  refine ⟨fun pins s σ H Q I ⟨φ, ρ, μ, rs, kk⟩ => ?_⟩
  refine attr_of hb (thn (he.run pins s σ H (fun v H1 => ∃ φ1 μ1 C mir fs, Cells X.K φ1 H1 μ1 ∧ RV X.K φ1 H1 (.d (obD C fs)) v ∧ L C = some mir ∧ VP X.K φ1 H1 (fun _ _ _ => False) Q (cl mir μ1 [.d (obD C fs)])) I ⟨φ, ρ, μ, rs, ?_⟩) fun u s1 ⟨v, H1, I1, rv, φ1, μ1, C, mir, fs, c1, r1, hL, q⟩ => ?_)
  · refine RsP.bd kk fun w μ1 _ k1 φ1 v H1 g1 c1 r1 => ?_
    split at k1
    · rename_i C fs hw
      have hw := obC_eq hw
      subst hw
      split at k1
      · rename_i mir hL
        split at k1
        · rename_i v2 μ2 e2
          refine ⟨φ1, μ1, C, mir, fs, c1, r1, hL, ?_⟩
          rw [e2]
          exact fun φ3 v3 H3 g3 c3 r3 => k1 φ3 v3 H3 (g1.trans g3) c3 r3
        · exact k1.elim
      · exact k1.elim
    · exact k1.elim
  obtain ⟨hC, cp⟩ := c C mir hL
  obtain ⟨fd, ps, F, hbd⟩ := cp.ex
  obtain ⟨a, dx, xs, ev, _, h1, hs⟩ := VY.Da.ob r1
  subst ev
  obtain rfl : u = Value.ref a := rv
  have hsp : spY X.K 1 mir [.ref a] H1 Q (fun _ _ _ => False) := spY_cl (ws := [.d (obD C fs)]) c1 ⟨_, [], rfl, r1, rfl⟩ rfl q
  obtain ⟨mA, O, _⟩ := ins_get I1.hok h1
  obtain ⟨od, J, _⟩ := O.look
  obtain ⟨rest, hrec⟩ := cp.pr.rec_
  have I2 := I1.tok (s1.toks + 1)
  have hl : ([Value.ref a] ++ ([] : List Value)).length = ps.length := (F.len _ _ _ _ hsp)
  have hbt := hbd { s1 with toks := s1.toks + 1 } [.ref a] I2.kIn hl
  have hci : (PySem.W.clsIn X.K (He.ga X.K C)).isSome = true := by
    obtain ⟨cd, hc, _⟩ := PySem.W.any_some hC.hd
    rw [hc] <;> rfl
  have run := F.run X.A.in1 X.stack { s1 with toks := s1.toks + 1 } H1 ⟨[.ref a], []⟩ [.ref a] [.ref a] Q (fun _ _ _ => False) hr.in1 I2.env0.in1 hbt (.cons rfl .nil) hsp
  refine PySem.W.get_bind I1.kIn J (PySem.W.plainGet_of (hC.get f)).1 (PySem.W.findObj_data hci cp.pr.at_ cp.pr.get cp.pr.tak) (PySem.W.plainGet_of (hC.get f)).2 (wpAny_call (PySem.W.prop_get (s := { s1 with toks := s1.toks + 1 }) I1.kIn hrec (codeAny_mono run fun r s' hq => ?_)))
  cases r with
  | error er => exact (noCXs hq).elim
  | ok fl =>
    cases fl with
    | ret z =>
      obtain ⟨v', H', I3, rv', q3⟩ := I2.after hq
      show wpAny _ _ (handedOut z) _ _ _
      rw [PySem.W.handedOut_of (handed_of rv')]
      exact wpAny_pure ⟨v', H', I3, rv', q3⟩
    | next => exact False.elim hq
    | brk => exact False.elim hq
    | cont => exact False.elim hq
end
end VY
end
section
set_option Elab.async false
set_option linter.all false
set_option maxRecDepth 100000
set_option maxHeartbeats 2000000
/-! C(..): new objects; __init__ -/
namespace VY
open PySem PySem.Spec PyProof.Rows L2 VL
variable [LawTabs]
/-! ### C(..) -/
/-- what is wished of a value that is a new object -/
def PostF (K : PySem.W.Frag) (φ : Ph) (H : Hp) (μ' : Mu) (w : Vw) (Q : VK) : Prop := ∀ φ' x H', Grow φ φ' H H' → Cells K φ' H' μ' → ObX K φ'.av H' w x → H x = none → Q (.ref x) H'
def VPF (K : PySem.W.Frag) (φ : Ph) (H : Hp) (W : XK) (Q : VK) : RM Vw → Prop := RsP K φ H W fun w μ => PostF K φ H μ w Q
def tXF (K : PySem.W.Frag) (W : WX) (f : EX) : TE := fun σ H Q => ∃ φ ρ μ, RS K φ σ H ρ μ ∧ VPF K φ H (WE W σ) Q (f ρ μ)
theorem VP.toF {K : PySem.W.Frag} {φ : Ph} {H : Hp} {W : XK} {Q : VK} {m : RM Vw} (h : VP K φ H W Q m) : VPF K φ H W Q m := RsP.imp h fun w μ p φ' x H' g c r _ => p φ' (.ref x) H' g c r.rv
def mkc (m : YM) (n : Nat) (μ1 : Mu) (ws : List Vw) : RM Vw := bif decide (ws.length + 1 = n) && ws.all isD then (match m [] ws with
  | some (.ok (.d v) _) => some (.ok (.d v) μ1)
  | some (.ex e _) => some (.ex e μ1)
  | _ => none) else none
@[simp] def xMake (n : Nat) (m : YM) (fa : AX) (ρ : Rho) (μ : Mu) : RM Vw := bd (fa ρ μ) fun ws μ1 => mkc m n μ1 ws
section
variable {X : Cx} {W : WX} {k n : Nat} {C : Str} {m : YM} {e : Expr} {es : List Expr} {fa : AX} {p pos : Pos}
theorem xp_out {K : PySem.W.Frag} {φ : Ph} {H : Hp} {E : XK} {x : Xc} {μ1 : Mu} (hc : Cells K φ H μ1) (h : XP K φ H E x μ1) : XP K (φ.1 ++ φ.2, []) H E x [] := by
  cases x with
  | own x => exact fun φ2 H2 g2 c2 => h φ H2 (grow_out g2) (cells_out hc g2 c2.tb)
  | low x f p => exact fun φ2 H2 d v g2 c2 hd hv => h φ H2 d v (grow_out g2) (cells_out hc g2 c2.tb) hd (Da.weak (sub_out g2) _ _ hv)
theorem run_makeG {pins : List (Addr × Obj)} {σ : L2.St} {H : Hp} {s : Shared} {Q : VK} {us : List Value} {vs : List V} {fd : FuncData} {ps : List Str} {sp : Sp} {f C : Addr} (M : Mk X.K C f) (F : FnG X.prog X.w X.K X.mg X.base k f fd ps sp) (hr : RoomG (k + 1) X.A) (hb : Binds X.K fd ps []) (hx : PassesAt (L2.CX X.prog X.w) X σ (WE W σ)) (I : Inv X pins σ H s) (r : Vals vs us)
    (h : ∀ x dx, H x = none → H dx = none → dx ≠ x → sp (.ref x :: vs) (upd (upd H dx (.own x)) x (.ins C dx [])) (fun v H2 => v = .non ∧ Q (.ref x) H2) (WE W σ)) : wpAny (model X.prog X.w) X.A (call (.ref C) us) (EP X pins σ Q) X.xe s := by
  have hq := h (s.heap.objs.size + 1) s.heap.objs.size (I.hok.fresh (Nat.le_succ _)) (I.hok.fresh (Nat.le_refl _)) (Nat.ne_of_lt (Nat.lt_succ_self _))
  have I2 := Inv.made (C := C) I
  have r2 : Vals (V.ref (s.heap.objs.size + 1) :: vs) (Value.ref (s.heap.objs.size + 1) :: us) := .cons rfl r
  have hl : ((Value.ref (s.heap.objs.size + 1) :: us) ++ ([] : List Value)).length = ps.length := by
    rw [List.append_nil, ← r2.length]; exact F.len _ _ _ _ hq
  have hb2 := hb _ (Value.ref (s.heap.objs.size + 1) :: us) I2.kIn hl
  rw [List.append_nil] at hb2
  have run := F.run (X.A.under (.builtin "type.__call__" ⟨.ref C :: us, []⟩)) X.stack _ _ ⟨Value.ref (s.heap.objs.size + 1) :: us, []⟩ (Value.ref (s.heap.objs.size + 1) :: us) _ _ _ (hr.make C us []) (I2.env0.make C us []) hb2 r2 hq
  refine wpAny_call (make_map (f := f) I.kIn M.makes M.init (beq_iff_eq.mp M.fn) (codeAny_mono run fun r s' hq' => ?_))
  cases r with
  | error e => exact hx pins _ _ e s' I2 hq'
  | ok fl =>
    cases fl with
    | ret u =>
      obtain ⟨v, H', I3, rv, ev, q3⟩ := I2.after hq'
      subst ev
      exact ⟨rv, ⟨V.ref (s.heap.objs.size + 1), H', I3, rfl, q3⟩⟩
    | next => exact False.elim hq'
    | brk => exact False.elim hq'
    | cont => exact False.elim hq'
/-- the promise of __init__ from what is wished of the new object -/
theorem spI_of {K : PySem.W.Frag} {φ : Ph} {H : Hp} {μ1 : Mu} {ws : List Vw} {vs : List V} {Q : VK} {E : XK} {x dx : Addr} (hc : Cells K φ H μ1) (r : RVs K φ H ws vs) (hx : H x = none) (hdx : H dx = none) (hne : dx ≠ x) (h : VPF K φ H E Q (mkc m n μ1 ws)) :
    spI K C n m (.ref x :: vs) (upd (upd H dx (.own x)) x (.ins (He.ga K C) dx [])) (fun v H2 => v = .non ∧ Q (.ref x) H2) E := by
  unfold mkc at h
  cases hb : decide (ws.length + 1 = n) && ws.all isD with
  | false => rw [hb] at h; exact h.elim
  | true =>
    rw [hb] at h
    obtain ⟨h1, ha⟩ := He.ba hb
    refine ⟨x, dx, vs, H, (φ.1 ++ φ.2, []), ws, rfl, rfl, hx, hdx, hne, cells_in hc, rvs_in ha r, of_decide_eq_true h1, ?_⟩
    simp only [cond_true] at h
    cases e : m [] ws with
    | none => rw [e] at h; exact h
    | some q =>
      rw [e] at h
      cases q with
      | ex y μ2 => exact xp_out hc h
      | ok w μ2 =>
        cases w with
        | d v =>
          refine fun H' g c r => ⟨rfl, ?_⟩
          refine h φ x H' (grow_out g) (cells_out hc g c.tb) ?_ hx
          exact ObX.weak (fun a ha => by
            rcases List.mem_append.mp ha with ha | ha
            · exact List.mem_append_left _ (List.mem_append_left _ ha)
            · exact List.mem_append_left _ (List.mem_append_right _ ha)) r
        | loc j => exact h.elim
        | kl ns => exact h.elim
        | rg lo hi => exact h.elim
theorem yj_makeF (tk : Takes X W) (c : CalK X.prog X.w X.K X.mg X.base k C n m) (hr : RoomG (k + 1) X.A) (ha : PA X (e :: es) (tXA X.K W fa)) (hg : Gl X C := by rfl) (hdb : (C == ("__debug__" : Str)) = false := by decide)
    (he : starEach (e :: es) X.env = (false, eval e X.env) :: starEach es X.env := by rfl) (hpl : (backTo pos (starEach es X.env)).any (·.1) = false := by rfl) : PE X (.Call (.Name C p) (e :: es) [] pos) (tXF X.K W (xMake n m fa)) := by
  obtain ⟨fd, ps, F, hb⟩ := c.ex
  refine ⟨fun pins s σ H Q I ⟨φ, ρ, μ, rs, kk⟩ => ?_⟩
  refine wpAny_Call_Name_kw (ld_glob I hg c.gl ?_ hdb)
  refine PySem.W.callWith_K (h₀ := X.base) I.ok.mod.kin c.mkr.kp (thn (ha.run pos pins s σ H (fun vs H1 => ∀ x dx, H1 x = none → H1 dx = none → dx ≠ x → spI X.K C n m (.ref x :: vs) (upd (upd H1 dx (.own x)) x (.ins (He.ga X.K C) dx [])) (fun v H2 => v = .non ∧ Q (.ref x) H2) (WE W σ)) I ⟨φ, ρ, μ, rs, ?_⟩) fun us s1 ⟨vs, H1, I1, r, q⟩ => ⟨I1.kIn, ?_⟩) he hpl
  · refine RsP.bd kk fun ws μ1 _ k1 φ1 vs H1 g1 c1 r1 x dx hx hdx hne => ?_
    refine spI_of c1 r1 hx hdx hne (RsP.grow g1 k1 fun w μ pf φ2 y H2 g2 c2 r2 hy => pf φ2 y H2 (g1.trans g2) c2 r2 (g1.live y hy))
  · exact run_makeG c.mkr F hr hb (passAt tk σ) I1 r q
theorem tXF_of {K : PySem.W.Frag} {f : EX} : ∀ σ H Q, tX K W f σ H Q → tXF K W f σ H Q := fun σ H Q ⟨φ, ρ, μ, rs, k⟩ => ⟨φ, ρ, μ, rs, VP.toF k⟩
theorem yj_make (tk : Takes X W) (c : CalK X.prog X.w X.K X.mg X.base k C n m) (hr : RoomG (k + 1) X.A) (ha : PA X (e :: es) (tXA X.K W fa)) (hg : Gl X C := by rfl) (hdb : (C == ("__debug__" : Str)) = false := by decide)
    (he : starEach (e :: es) X.env = (false, eval e X.env) :: starEach es X.env := by rfl) (hpl : (backTo pos (starEach es X.env)).any (·.1) = false := by rfl) : PE X (.Call (.Name C p) (e :: es) [] pos) (tX X.K W (xMake n m fa)) := PE.to (yj_makeF tk c hr ha hg hdb he hpl) tXF_of
end
/-! ### defs that give a new object -/
abbrev SXF := SX
def S1PF (K : PySem.W.Frag) (φ : Ph) (H : Hp) (D : Ends) : S1 → Mu → Prop
  | .rt w, μ => PostF K φ H μ w D.rt
  | _, _ => False
def tXSF (K : PySem.W.Frag) (W : WX) (g : SX) : TS := fun D σ H => ∃ φ ρ μ, RS K φ σ H ρ μ ∧ RsP K φ H (WE W σ) (S1PF K φ H D) (g ρ μ)
def spYF (K : PySem.W.Frag) (n : Nat) (m : YM) : Sp := fun vs H Q E => ∃ φ ws, Cells K φ H [] ∧ RVs K φ H ws vs ∧ ws.length = n ∧ VPF K φ H E Q (m [] ws)
def fnF (n : Nat) (body : SX) (_ : Mu) (ws : List Vw) : RM Vw := match body (ws.map some ++ List.replicate (n - ws.length) none) [] with
  | some (.ok (.rt (.d p)) _) => some (.ok (.d p) [])
  | some (.ex e _) => some (.ex e [])
  | _ => none
@[simp] def ySeqF (g h : SX) (ρ : Rho) (μ : Mu) : RM S1 := bd (g ρ μ) fun r μ1 => match r with
  | .nx ρ1 => h ρ1 μ1
  | _ => none
structure CalF (P : Program) (w : World) (K : PySem.W.Frag) (mg : Str → Option Value) (base : Heap) (k : Nat) (x : Str) (n : Nat) (m : YM) : Prop where
  ex : ∃ fd ps, FnG P w K mg base k (He.ga K x) fd ps (spYF K n m) ∧ mg x = some (.ref (He.ga K x)) ∧ PySem.W.keepIn K (.ref (He.ga K x)) = true ∧ Binds K fd ps []
theorem CalF.mono {P : Program} {w : World} {K : PySem.W.Frag} {mg : Str → Option Value} {base : Heap} {j k : Nat} {x : Str} {n : Nat} {m : YM} (c : CalF P w K mg base j x n m) (h : j ≤ k) : CalF P w K mg base k x n m := by
  obtain ⟨fd, ps, h1, h2, h3, h4⟩ := c.ex
  exact ⟨fd, ps, h1.mono h, h2, h3, h4⟩
section
variable {X : Cx} {W : WX} {E : XK} {pos : Pos} {e : Expr} {st : Stmt} {rest : List Stmt}
theorem yssF_ret {f : EX} (h : PE X e (tXF X.K W f)) : PSs X [.Return (some e) pos] (tXSF X.K W (yRet f)) := PSs.to (pss_one (ps_ret h)) fun D σ H ⟨φ, ρ, μ, rs, k⟩ => ⟨φ, ρ, μ, rs, RsP.bd k fun w μ1 _ k1 => k1⟩
theorem yssF_cons {g h : SX} (h1 : PS X st (tXS X.K (wf E) g)) (h2 : PSs X rest (tXSF X.K (wf E) h)) : PSs X (st :: rest) (tXSF X.K (wf E) (ySeqF g h)) := PSs.to (pss_cons h1 h2) fun D σ H ⟨φ, ρ, μ, rs, k⟩ => by
  refine ⟨φ, ρ, μ, rs, RsP.bd k fun r μ1 _ k1 => ?_⟩
  cases r with
  | nx ρ1 =>
    refine fun φ1 σ1 H1 g1 r1 => ⟨φ1, ρ1, μ1, r1, RsP.grow g1 k1 fun a μ2 p => ?_⟩
    cases a with
    | rt w => exact fun φ2 x H2 g2 c2 o2 hx => p φ2 x H2 (g1.trans g2) c2 o2 (g1.live x hx)
    | nx _ => exact p
    | bk _ => exact p
    | ct _ => exact p
  | rt w => exact k1.elim
  | bk ρ1 => exact k1.elim
  | ct ρ1 => exact k1.elim
end
section
variable {P : Program} {w : World} {K : PySem.W.Frag} {mg : Str → Option Value} {base : Heap}
theorem fnGF_ok {x qual : Str} {params : Arguments} {body : List Stmt} {scope : Scope} {kws : List (Str × V)} {f : Addr} {fd : FuncData} {N ps : List Str} {k : Nat} {g : SX} (F : FunD K x qual params body scope [] kws f fd) (S : FnScope N ps scope)
    (h : ∀ (cdv : Value) (A : Around) (outer : List Env) (s : Shared) (H : Hp) (E : XK), RoomG k (A.deeper (envOfC qual scope s.heap.objs.size f cdv)) → PSs (cxOf (L2.CX P w) P w K mg base N qual scope f cdv A outer s H E) body (tXSF K (wf E) g)) :
    FnG P w K mg base (k + 1) f fd ps (spYF K ps.length (fnF N.length g)) := by
  have len : ∀ vs H Q E, spYF K ps.length (fnF N.length g) vs H Q E → vs.length = ps.length := fun vs H Q E ⟨φ, ws, c, r, hl, k⟩ => by rw [← r.len, hl]
  refine ⟨len, fun A outer s H args us vs Q E hr e0 hb r hsp => ?_⟩
  obtain ⟨oc, od, dV, kV, doc, pm, an, cdv, ct, osl, rfl, lk, hcd, _, _⟩ := F.ex
  refine LamX.run_ofS lk hcd S hr.r e0 hb r (len _ _ _ _ hsp) fun _ => ⟨_, h cdv A outer s H E (hr.deeper _), ?_⟩
  obtain ⟨φ, ws, c, rv, hl, kk⟩ := hsp
  refine ⟨φ, _, [], rvs_start c rv, ?_⟩
  unfold fnF at kk
  cases e : g (ws.map some ++ List.replicate (N.length - ws.length) none) [] with
  | none => rw [e] at kk; exact kk.elim
  | some q =>
    rw [e] at kk
    cases q with
    | ex x μ1 => exact XP.cut c kk
    | ok q μ1 =>
      cases q with
      | rt w1 =>
        cases w1 with
        | d p => exact fun φ2 x H2 g2 c2 o2 hx => kk φ x H2 (cut_grow g2) (cut_cells c g2 c2) (o2.weak (sub_av g2)) hx
        | loc j => exact kk.elim
        | kl ns => exact kk.elim
        | rg lo hi => exact kk.elim
      | nx ρ1 => exact kk.elim
      | bk ρ1 => exact kk.elim
      | ct ρ1 => exact kk.elim
theorem calF_ok {x : Str} {params : Arguments} {body : List Stmt} {scope : Scope} {fd : FuncData} {N ps : List Str} {k : Nat} {g : SX} (hf : mg x = some (.ref (He.ga K x))) (F : FunD K x x params body scope [] [] (He.ga K x) fd) (S : FnScope N ps scope)
    (hb : ∀ (kV doc pm : Value) (an : Option Addr) (cdv ct : Value) (us : List Value), us.length = ps.length → bindArgs (PySem.W.fnOf x x params body scope .none kV doc pm an cdv ct) ⟨us, []⟩ = pure (ps.zip us))
    (h : ∀ (cdv : Value) (A : Around) (outer : List Env) (s : Shared) (H : Hp) (E : XK), RoomG k (A.deeper (envOfC x scope s.heap.objs.size (He.ga K x) cdv)) → PSs (cxOf (L2.CX P w) P w K mg base N x scope (He.ga K x) cdv A outer s H E) body (tXSF K (wf E) g)) :
    CalF P w K mg base (k + 1) x ps.length (fnF N.length g) := ⟨fd, ps, fnGF_ok F S h, hf, F.kp, F.bindsN hb⟩
end
def clF (m : YM) (n : Nat) (μ1 : Mu) (ws : List Vw) : RM Vw := bif decide (ws.length = n) && ws.all isD then (match m [] ws with
  | some (.ok (.d v) _) => some (.ok (.d v) μ1)
  | some (.ex e _) => some (.ex e μ1)
  | _ => none) else none
@[simp] def xCallF (n : Nat) (m : YM) (fa : AX) (ρ : Rho) (μ : Mu) : RM Vw := bd (fa ρ μ) fun ws μ1 => clF m n μ1 ws
section
variable {X : Cx} {W : WX} {k n : Nat} {x : Str} {m : YM} {e : Expr} {es : List Expr} {fa : AX} {p pos : Pos}
theorem spYF_of {K : PySem.W.Frag} {φ : Ph} {H : Hp} {μ1 : Mu} {ws : List Vw} {vs : List V} {Q : VK} {E : XK} (hc : Cells K φ H μ1) (r : RVs K φ H ws vs) (h : VPF K φ H E Q (clF m n μ1 ws)) : spYF K n m vs H Q E := by
  unfold clF at h
  cases hb : decide (ws.length = n) && ws.all isD with
  | false => rw [hb] at h; exact h.elim
  | true =>
    rw [hb] at h
    obtain ⟨h1, ha⟩ := He.ba hb
    refine ⟨(φ.1 ++ φ.2, []), ws, cells_in hc, rvs_in ha r, of_decide_eq_true h1, ?_⟩
    simp only [cond_true] at h
    cases e : m [] ws with
    | none => rw [e] at h; exact h
    | some q =>
      rw [e] at h
      cases q with
      | ex y μ2 => exact (show XP K (φ.1 ++ φ.2, []) H E y μ2 from by
          have h' : XP K φ H E y μ1 := h
          cases y with
          | own x => exact fun φ2 H2 g2 c2 => h' φ H2 (grow_out g2) (cells_out hc g2 c2.tb)
          | low x f p => exact fun φ2 H2 d v g2 c2 hd hv => h' φ H2 d v (grow_out g2) (cells_out hc g2 c2.tb) hd (Da.weak (sub_out g2) _ _ hv))
      | ok w μ2 =>
        cases w with
        | d v => exact fun φ2 y H2 g2 c2 o2 hy => h φ y H2 (grow_out g2) (cells_out hc g2 c2.tb) (o2.weak (sub_out g2)) hy
        | loc j => exact h.elim
        | kl ns => exact h.elim
        | rg lo hi => exact h.elim
theorem yj_callF (tk : Takes X W) (c : CalF X.prog X.w X.K X.mg X.base k x n m) (hr : RoomG k X.A) (ha : PA X (e :: es) (tXA X.K W fa)) (hg : Gl X x := by rfl) (hdb : (x == ("__debug__" : Str)) = false := by decide)
    (he : starEach (e :: es) X.env = (false, eval e X.env) :: starEach es X.env := by rfl) (hpl : (backTo pos (starEach es X.env)).any (·.1) = false := by rfl) : PE X (.Call (.Name x p) (e :: es) [] pos) (tXF X.K W (xCallF n m fa)) := by
  obtain ⟨fd, ps, F, hm, hk, hb⟩ := c.ex
  refine ⟨fun pins s σ H Q I ⟨φ, ρ, μ, rs, kk⟩ => ?_⟩
  refine wpAny_Call_Name_kw (ld_glob I hg hm ?_ hdb)
  refine PySem.W.callWith_K (h₀ := X.base) I.ok.mod.kin hk (thn (ha.run pos pins s σ H (fun vs H1 => spYF X.K n m vs H1 Q (WE W σ)) I ⟨φ, ρ, μ, rs, ?_⟩) fun us s1 ⟨vs, H1, I1, r, q⟩ => ⟨I1.kIn, ?_⟩) he hpl
  · refine RsP.bd kk fun ws μ1 _ k1 φ1 vs H1 g1 c1 r1 => spYF_of c1 r1 (RsP.grow g1 k1 fun w μ pf φ2 y H2 g2 c2 r2 hy => pf φ2 y H2 (g1.trans g2) c2 r2 (g1.live y hy))
  · exact run_fnG F hr hb (passAt tk σ) I1 r q
end
end VY
end
section
set_option Elab.async false
set_option linter.all false
set_option maxRecDepth 100000
set_option maxHeartbeats 2000000
/-! __init__: statements beside a new object -/
namespace VY
open PySem PySem.Spec PyProof.Rows L2 VL
variable [LawTabs]
abbrev Fs := List (PyData × PyData)
abbrev IX := Fs → Rho → Mu → RM (Fs × Rho)
structure IS (K : PySem.W.Frag) (C : Str) (sl : Nat) (φ0 : Ph) (H0 : Hp) (x : Addr) (φ : Ph) (σ : L2.St) (H : Hp) (ρ : Rho) (μ : Mu) (fs : Fs) : Prop where
  g : Grow φ0 φ H0 H
  hx : H0 x = none
  m1 : x ∈ φ.1
  m2 : x ∉ φ.2
  rs : RS K φ σ H ρ μ
  s0 : σ[sl]? = some (some (.ref x))
  ob : ∃ dx vs, H x = some (.ins (He.ga K C) dx vs) ∧ DaFs K φ.av H fs vs
def IP (K : PySem.W.Frag) (C : Str) (sl : Nat) (φ0 : Ph) (H0 : Hp) (x : Addr) (E : XK) (D : Ends) : RM (Fs × Rho) → Prop := RsP K φ0 H0 E fun r μ' => ∀ φ' σ' H', IS K C sl φ0 H0 x φ' σ' H' r.2 μ' r.1 → D.nx σ' H'
def tIS (K : PySem.W.Frag) (C : Str) (sl : Nat) (E : XK) (g : IX) : TS := fun D σ H => ∃ φ0 H0 x φ ρ μ fs, IS K C sl φ0 H0 x φ σ H ρ μ fs ∧ IP K C sl φ0 H0 x E D (g fs ρ μ)
section
variable {K : PySem.W.Frag} {C : Str} {sl : Nat} {φ0 φ φ1 : Ph} {H0 H H1 : Hp} {x : Addr} {σ : L2.St} {ρ : Rho} {μ μ1 : Mu} {fs : Fs}
theorem IS.step (i : IS K C sl φ0 H0 x φ σ H ρ μ fs) (g1 : Grow φ φ1 H H1) (c1 : Cells K φ1 H1 μ1) : IS K C sl φ0 H0 x φ1 σ H1 ρ μ1 fs := by
  obtain ⟨dx, vs, h, hs⟩ := i.ob
  refine ⟨i.g.trans g1, i.hx, ?_, g1.out2 (by rw [h]; simp) i.m2, i.rs.step g1.w c1, i.s0, dx, vs, g1.ext _ _ h (fun _ ys z => by cases z) (fun ps z => by cases z), DaFs.step g1.w _ _ hs⟩
  obtain ⟨χ, e, _⟩ := g1.fst
  rw [e]; exact List.mem_append_left _ i.m1
theorem RV.wr {D : Addr} {o o' : HO} (hD : D ∈ φ.1) (hl : H D = some o) (ho : WrO o) : ∀ (w : Vw) (v : V), RV K φ H w v → RV K φ (upd H D o') w v
  | .d p, v, h => Da.wr (List.mem_append_left _ hD) hl ho p v h
  | .loc n, v, h => h
  | .kl ns, v, ⟨a, e, h⟩ => by
    refine ⟨a, e, ?_⟩
    rcases h with ⟨o, h⟩ | ⟨hn, h⟩ | h
    · exact .inl ⟨o, by rw [upd_ne (ho.ne hl h trivial)]; exact h⟩
    · exact .inr (.inl ⟨hn, by rw [upd_ne (fun z => hn (by rw [z]; exact List.mem_append_left _ hD))]; exact h⟩)
    · exact .inr (.inr h)
  | .rg lo hi, v, ⟨a, e, h⟩ => ⟨a, e, by rw [upd_ne (ho.ne hl h trivial)]; exact h⟩
theorem RS.wr (r : RS K φ σ H ρ μ) {D : Addr} {o o' : HO} (hD : D ∈ φ.1) (hD2 : D ∉ φ.2) (hl : H D = some o) (ho : WrO o) : RS K φ σ (upd H D o') ρ μ :=
  ⟨r.c.wr hD hD2 hl ho, r.len, fun i w h => let ⟨v, h1, h2⟩ := r.at_ i w h; ⟨v, h1, RV.wr hD hl ho w v h2⟩⟩
theorem IS.store (i : IS K C sl φ0 H0 x φ σ H ρ μ fs) {f : Str} {p : PyData} {y : V} (hp : Da K φ.av H p y) {dx : Addr} {vs : List (Str × V)} (h : H x = some (.ins (He.ga K C) dx vs)) (hs : DaFs K φ.av H fs vs) :
    IS K C sl φ0 H0 x φ σ (upd H x (.ins (He.ga K C) dx (putF f y vs))) ρ μ (setF f p fs) := by
  refine ⟨⟨i.g.fst, i.g.pre, fun a o e hn nt => ?_, fun a z => ?_⟩, i.hx, i.m1, i.m2, RS.wr i.rs i.m1 i.m2 h trivial, i.s0, dx, _, upd_same, ?_⟩
  · rw [upd_ne (ne_of_none e i.hx)]; exact i.g.ext a o e hn nt
  · by_cases e : a = x
    · rw [e]; exact i.hx
    · rw [upd_ne e] at z; exact i.g.live a z
  · exact DaFs.set (Da.wr (List.mem_append_left _ i.m1) h trivial p y hp) (DaFs.wr (List.mem_append_left _ i.m1) h trivial fs vs hs)
end
section
variable {X : Cx} {C : Str} {sl : Nat} {E : XK} {pos pos' p : Pos} {e c : Expr} {st : Stmt} {a rest : List Stmt}
def iNil : IX := fun fs ρ μ => some (.ok (fs, ρ) μ)
def iSeq2 (g h : IX) : IX := fun fs ρ μ => bd (g fs ρ μ) fun r μ1 => h r.1 r.2 μ1
theorem is_nil : PSs X [] (tIS X.K C sl E iNil) := PSs.to pss_nil fun D σ H ⟨φ0, H0, x, φ, ρ, μ, fs, i, k⟩ => k φ σ H i
theorem is_cons {g h : IX} (h1 : PS X st (tIS X.K C sl E g)) (h2 : PSs X rest (tIS X.K C sl E h)) : PSs X (st :: rest) (tIS X.K C sl E (iSeq2 g h)) := PSs.to (pss_cons h1 h2) fun D σ H ⟨φ0, H0, x, φ, ρ, μ, fs, i, k⟩ =>
  ⟨φ0, H0, x, φ, ρ, μ, fs, i, RsP.bd k fun r μ1 _ k1 φ' σ' H' i' => ⟨φ0, H0, x, φ', r.2, μ1, r.1, i', k1⟩⟩
/-- a value is reckoned beside the object -/
theorem vp_is {K : PySem.W.Frag} {sl : Nat} {C : Str} {E : XK} {φ0 φ : Ph} {H0 H : Hp} {x : Addr} {σ : L2.St} {ρ : Rho} {μ : Mu} {fs : Fs} {D : Ends} {Q : VK} {m : RM Vw} {k : Vw → Mu → RM (Fs × Rho)} (i : IS K C sl φ0 H0 x φ σ H ρ μ fs) (h : IP K C sl φ0 H0 x E D (bd m k))
    (hQ : ∀ w μ1 φ1 v H1, Grow φ φ1 H H1 → Cells K φ1 H1 μ1 → RV K φ1 H1 w v → IP K C sl φ0 H0 x E D (k w μ1) → Q v H1) : VP K φ H E Q m := by
  cases m with
  | none => exact h.elim
  | some r =>
    cases r with
    | ex e μ1 => exact XP.grow i.g h
    | ok w μ1 => exact fun φ1 v H1 g1 c1 r1 => hQ w μ1 φ1 v H1 g1 c1 r1 h
def iDrop (f : EX) : IX := fun fs ρ μ => bd (f ρ μ) fun _ μ1 => some (.ok (fs, ρ) μ1)
theorem is_expr {f : EX} (h : PE X e (tX X.K (wf E) f)) (hs : swapsWith e none pos.line X.env = pure false := by rfl) : PS X (.Expr e pos) (tIS X.K C sl E (iDrop f)) := PS.to (ps_expr h hs) fun D σ H ⟨φ0, H0, x, φ, ρ, μ, fs, i, k⟩ =>
  ⟨φ, ρ, μ, i.rs, vp_is i k fun w μ1 φ1 v H1 g1 c1 r1 k1 => k1 φ1 σ H1 (i.step g1 c1)⟩
def iSet (j : Nat) (f : EX) : IX := fun fs ρ μ => bd (f ρ μ) fun w μ1 => some (.ok (fs, ρ.set j (some w)) μ1)
theorem is_set {j : Nat} {x : Str} {f : EX} (hN : X.N.Nodup) (hj : j ≠ sl) (he : PE X e (tX X.K (wf E) f)) (hi : X.N[j]? = some x := by rfl) (hx : Loc X.env.scope x := by first | exact Or.inl rfl | exact Or.inr rfl) (hs : swapsWith e (some (.Name x pos')) pos.line X.env = pure false := by rfl)
    (hf : X.fn x = true ∨ X.env.scope.names.lookup x = some .local := by first | exact .inl rfl | exact .inr rfl) : PS X (.Assign [.Name x pos'] e pos) (tIS X.K C sl E (iSet j f)) := PS.to (ps_set hN hi hx he hs hf) fun D σ H ⟨φ0, H0, x, φ, ρ, μ, fs, i, k⟩ => by
  refine ⟨φ, ρ, μ, i.rs, vp_is i k fun w μ1 φ1 v H1 g1 c1 r1 k1 => ?_⟩
  have i1 := i.step g1 c1
  exact k1 φ1 _ H1 ⟨i1.g, i1.hx, i1.m1, i1.m2, i1.rs.put r1, by rw [List.getElem?_set_ne hj]; exact i1.s0, i1.ob⟩
def iIf (t : BX) (g : SX) : IX := fun fs ρ μ => bd (t ρ μ) fun b μ1 => bif b then (match g ρ μ1 with
  | some (.ex e μ2) => some (.ex e μ2)
  | _ => none) else some (.ok (fs, ρ) μ1)
theorem is_if {t : BX} {g : SX} (hc : PT X c (tXB X.K (wf E) t)) (ha : PSs X a (tXS X.K (wf E) g)) : PS X (.If c a [] pos) (tIS X.K C sl E (iIf t g)) := PS.to (ps_if hc ha pss_nil) fun D σ H ⟨φ0, H0, x, φ, ρ, μ, fs, i, k⟩ => by
  refine ⟨φ, ρ, μ, i.rs, ?_⟩
  unfold iIf at k
  cases e : t ρ μ with
  | none => rw [e] at k; exact k.elim
  | some r =>
    rw [e] at k
    cases r with
    | ex y μ1 => exact XP.grow i.g k
    | ok b μ1 =>
      intro φ1 H1 g1 c1
      have i1 := i.step g1 c1
      cases b with
      | false => exact L2.iteF (k φ1 σ H1 i1)
      | true =>
        refine L2.iteT ⟨φ1, ρ, μ1, i1.rs, ?_⟩
        simp only [bd, cond_true] at k
        cases e2 : g ρ μ1 with
        | none => rw [e2] at k; exact k.elim
        | some q =>
          rw [e2] at k
          cases q with
          | ok r μ2 => exact k.elim
          | ex y μ2 => exact XP.grow i1.g k
def iFld (f : Str) (g : EX) : IX := fun fs ρ μ => bd (g ρ μ) fun w μ1 => match w with
  | .d p => bif decide (fs.length < 900) then some (.ok (setF f p fs, ρ) μ1) else none
  | _ => none
theorem is_fld {g : EX} {f x : Str} (hc : Cls X.K (He.ga X.K C)) (hn : NoAttr X.K (He.ga X.K C) f) (he : PE X e (tX X.K (wf E) g)) (hN : X.N[sl]? = some x := by rfl) (hv : Vis X.env.scope x := by first | exact Or.inl rfl | exact Or.inr (Or.inl rfl) | exact Or.inr (Or.inr rfl))
    (hd : (x == ("__debug__" : Str)) = false := by decide) (hcd : (x == ("__classdict__" : Str)) = false := by decide) (hs : swapsWith e (some (.Attribute (.Name x p) f pos')) pos.line X.env = pure false := by rfl) : PS X (.Assign [.Attribute (.Name x p) f pos'] e pos) (tIS X.K C sl E (iFld f g)) :=
  PS.to (ps_fld (pe_var hN hv hd hcd) he hs) fun D σ H ⟨φ0, H0, x, φ, ρ, μ, fs, i, k⟩ => by
  refine ⟨φ, ρ, μ, i.rs, vp_is i k fun w μ1 φ1 v H1 g1 c1 r1 k1 => ?_⟩
  have i1 := i.step g1 c1
  obtain ⟨dx, vs, h, hs⟩ := i1.ob
  refine ⟨.ref x, i1.s0, x, _, dx, vs, rfl, h, hc, hn, ?_⟩
  cases w with
  | d p =>
    dsimp only at k1
    cases hb : decide (fs.length < 900) with
    | false => rw [hb] at k1; exact k1.elim
    | true =>
      rw [hb] at k1
      have hl : fs.length < 900 := of_decide_eq_true hb
      exact ⟨by rw [← VY.DaFs.len hs]; omega, k1 φ1 σ _ (i1.store r1 h hs)⟩
  | loc n => exact k1.elim
  | kl n => exact k1.elim
  | rg lo hi => exact k1.elim
end
/-- __init__ as what it makes of the arguments -/
def iniM (n : Nat) (C : Str) (g : IX) : YM := fun _ ws => match g [] (none :: (ws.map some ++ List.replicate (n - (ws.length + 1)) none)) [] with
  | some (.ok r _) => some (.ok (.d (obD C r.1)) [])
  | some (.ex e _) => some (.ex e [])
  | none => none
section
variable {P : Program} {w : World} {K : PySem.W.Frag} {mg : Str → Option Value} {base : Heap} {k : Nat} {C : Str}
theorem initG_ok {x qual : Str} {params : Arguments} {body : List Stmt} {scope : Scope} {kws : List (Str × V)} {f : Addr} {fd : FuncData} {N ps : List Str} {g : IX} (F : FunD K x qual params body scope [] kws f fd) (S : FnScope N ps scope)
    (h : ∀ (cdv : Value) (A : Around) (outer : List Env) (s : Shared) (H : Hp) (E : XK), RoomG k (A.deeper (envOfC qual scope s.heap.objs.size f cdv)) → PSs (cxOf (L2.CX P w) P w K mg base N qual scope f cdv A outer s H E) body (tIS K C 0 E g)) :
    FnG P w K mg base (k + 1) f fd ps (spI K C ps.length (iniM N.length C g)) := by
  have len : ∀ vs H Q E, spI K C ps.length (iniM N.length C g) vs H Q E → vs.length = ps.length := fun vs H Q E ⟨x, dx, vs', H0, φ0, ws, ev, eH, h1, h2, h3, c, r, hl, k⟩ => by rw [ev, List.length_cons, ← r.len, hl]
  refine ⟨len, fun A outer s H args us vs Q E hr e0 hb r hsp => ?_⟩
  obtain ⟨oc, od, dV, kV, doc, pm, an, cdv, ct, osl, rfl, lk, hcd, _, _⟩ := F.ex
  refine LamX.run_ofS lk hcd S hr.r e0 hb r (len _ _ _ _ hsp) fun _ => ⟨_, h cdv A outer s H E (hr.deeper _), ?_⟩
  obtain ⟨x, dx, vs', H0, φ0, ws, ev, eH, h1, h2, h3, c, rv, hl, kk⟩ := hsp
  subst ev eH
  have gr : Grow φ0 (φ0.1 ++ [x], φ0.2) H0 (upd (upd H0 dx (.own x)) x (.ins (He.ga K C) dx [])) := by
    refine ⟨⟨[x], rfl, fun a ha => by rw [List.mem_singleton.mp ha]; exact h1⟩, ⟨[], by simp, by simp⟩, fun a o e _ _ => ?_, fun a z => ?_⟩
    · rw [upd_ne (ne_of_none e h1), upd_ne (ne_of_none e h2)]; exact e
    · by_cases e : a = x
      · rw [e]; exact h1
      · rw [upd_ne e] at z
        by_cases e2 : a = dx
        · rw [e2]; exact h2
        · rw [upd_ne e2] at z; exact z
  have hx1 : upd H0 dx (.own x) x = none := by rw [upd_ne h3.symm]; exact h1
  have cs : Cells K (φ0.1 ++ [x], φ0.2) (upd (upd H0 dx (.own x)) x (.ins (He.ga K C) dx [])) [] := by
    refine ⟨c.nd, c.len, fun n a ds _ z => by simp at z, fun a ha => ?_, tabs_laid (tabs_laid c.tb h2) hx1⟩
    rcases List.mem_append.mp ha with ha | ha
    · exact fun z => c.tr a ha (gr.live a z)
    · rw [List.mem_singleton.mp ha, upd_same]; simp
  have r0 : φ0.2 = [] := List.eq_nil_of_length_eq_zero c.len
  have rst : RS K (φ0.1 ++ [x], φ0.2) (L2.start N (.ref x :: vs')) (upd (upd H0 dx (.own x)) x (.ins (He.ga K C) dx [])) (none :: (ws.map some ++ List.replicate (N.length - (ws.length + 1)) none)) [] := by
    have rv2 := RVs.step gr.w ws vs' rv
    have hlen := rv.len
    refine ⟨cs, by unfold L2.start; simp [hlen], fun i w hw => ?_⟩
    cases i with
    | zero => simp at hw
    | succ i =>
      rw [List.getElem?_cons_succ] at hw
      by_cases hi : i < ws.length
      · rw [List.getElem?_append_left (by simpa using hi)] at hw
        obtain ⟨u, e1, e2⟩ := List.getElem?_map .. ▸ hw |> Option.map_eq_some_iff.mp
        cases e2
        obtain ⟨v, e3, e4⟩ := rv2.get e1
        refine ⟨v, ?_, e4⟩
        unfold L2.start
        rw [List.getElem?_append_left (by simp; omega)]
        simp [e3]
      · rw [List.getElem?_append_right (by simpa using hi)] at hw
        have := List.mem_of_getElem? hw
        have z := (List.mem_replicate.mp this).2
        cases z
  refine ⟨φ0, H0, x, _, _, [], [], ⟨gr, h1, List.mem_append_right _ (List.mem_singleton.mpr rfl), by rw [r0]; simp, rst, by unfold L2.start; simp, dx, [], upd_same, rfl⟩, ?_⟩
  unfold iniM at kk
  cases e : g [] (none :: (ws.map some ++ List.replicate (N.length - (ws.length + 1)) none)) [] with
  | none => rw [e] at kk; exact kk.elim
  | some q =>
    rw [e] at kk
    cases q with
    | ex y μ1 => exact XP.cut c kk
    | ok r μ1 =>
      intro φ' σ' H' i
      refine kk H' (cut_grow i.g) (cut_cells c i.g i.rs.c) ?_
      obtain ⟨dx', vs2, h5, h6⟩ := i.ob
      exact ⟨C, r.1, dx', vs2, rfl, c.notin h1, h5, DaFs.weak (fun a ha => (List.mem_cons.mp ha).elim (fun z => by rw [z]; exact List.mem_append_left _ i.m1) fun z => sub_av i.g a z) _ _ h6⟩
theorem calK_ok {qual : Str} {params : Arguments} {body : List Stmt} {scope : Scope} {fd : FuncData} {N ps : List Str} {g : IX} (M : Mk K (He.ga K C) (He.ma K (He.ga K C) "__init__")) (hg : mg C = some (.ref (He.ga K C))) (F : FunD K "__init__" qual params body scope [] [] (He.ma K (He.ga K C) "__init__") fd) (S : FnScope N ps scope)
    (hb : ∀ (kV doc pm : Value) (an : Option Addr) (cdv ct : Value) (us : List Value), us.length = ps.length → bindArgs (PySem.W.fnOf "__init__" qual params body scope .none kV doc pm an cdv ct) ⟨us, []⟩ = pure (ps.zip us))
    (h : ∀ (cdv : Value) (A : Around) (outer : List Env) (s : Shared) (H : Hp) (E : XK), RoomG k (A.deeper (envOfC qual scope s.heap.objs.size (He.ma K (He.ga K C) "__init__") cdv)) → PSs (cxOf (L2.CX P w) P w K mg base N qual scope (He.ma K (He.ga K C) "__init__") cdv A outer s H E) body (tIS K C 0 E g)) :
    CalK P w K mg base (k + 1) C ps.length (iniM N.length C g) := ⟨⟨fd, ps, initG_ok F S h, F.bindsN hb⟩, M, hg⟩
theorem calM_ok (fresh : Bool) {m qual : Str} {params : Arguments} {body : List Stmt} {scope : Scope} {fd : FuncData} {N ps : List Str} {g : SX} (M : Meth K (He.ga K C) m (He.ma K (He.ga K C) m)) (F : FunD K m qual params body scope [] [] (He.ma K (He.ga K C) m) fd) (S : FnScope N ps scope)
    (hb : ∀ (kV doc pm : Value) (an : Option Addr) (cdv ct : Value) (us : List Value), us.length = ps.length → bindArgs (PySem.W.fnOf m qual params body scope .none kV doc pm an cdv ct) ⟨us, []⟩ = pure (ps.zip us))
    (h : ∀ (cdv : Value) (A : Around) (outer : List Env) (s : Shared) (H : Hp) (E : XK), RoomG k (A.deeper (envOfC qual scope s.heap.objs.size (He.ma K (He.ga K C) m) cdv)) → PSs (cxOf (L2.CX P w) P w K mg base N qual scope (He.ma K (He.ga K C) m) cdv A outer s H E) body (tXS K (wf E) g)) :
    CalM P w K mg base (k + 1) C m ps.length (fnY fresh N.length g) := ⟨⟨fd, ps, fnG_ok fresh F S h, F.bindsN hb⟩, M⟩
theorem calP_ok {f qual : Str} {params : Arguments} {body : List Stmt} {scope : Scope} {fd : FuncData} {N : List Str} {y : Str} {g : SX} (R : PropOf K (He.ga K C) f (He.ma K (He.ga K C) f) (He5.wf K (He.ga K C) "property" f)) (F : FunD K f qual params body scope [] [] (He5.wf K (He.ga K C) "property" f) fd) (S : FnScope N [y] scope)
    (hb : ∀ (kV doc pm : Value) (an : Option Addr) (cdv ct : Value) (us : List Value), us.length = [y].length → bindArgs (PySem.W.fnOf f qual params body scope .none kV doc pm an cdv ct) ⟨us, []⟩ = pure ([y].zip us))
    (h : ∀ (cdv : Value) (A : Around) (outer : List Env) (s : Shared) (H : Hp) (E : XK), RoomG k (A.deeper (envOfC qual scope s.heap.objs.size (He5.wf K (He.ga K C) "property" f) cdv)) → PSs (cxOf (L2.CX P w) P w K mg base N qual scope (He5.wf K (He.ga K C) "property" f) cdv A outer s H E) body (tXS K (wf E) g)) :
    CalP P w K mg base (k + 1) C f (fnY false N.length g) := ⟨⟨fd, [y], fnG_ok false F S h, F.bindsN hb⟩, R⟩
end
/-! ### what the head tells of a property -/
def propB (K : PySem.W.Frag) (C f : Str) : Bool := He.eqO (PySem.W.findIn K (.ref (He.ga K C)) f) (some (some (.ref (He.ma K (He.ga K C) f)))) && (He.eqO (PySem.W.specialIn K (.ref (He.ma K (He.ga K C) f)) "__get__") (some (some (.builtin "property.__get__"))) && (decide (PySem.W.takesIn K (.ref (He.ma K (He.ga K C) f)) = some true) &&
  (match PySem.W.recIn K (He.ma K (He.ga K C) f) "property" with
  | some (.ref _ :: _) => true
  | _ => false)))
theorem propB_ok {K : PySem.W.Frag} {C f : Str} (h : propB K C f = true) : PropOf K (He.ga K C) f (He.ma K (He.ga K C) f) (He5.wf K (He.ga K C) "property" f) := by
  obtain ⟨h1, h⟩ := He.ba h
  obtain ⟨h2, h⟩ := He.ba h
  obtain ⟨h3, h4⟩ := He.ba h
  refine ⟨He.eqO_ok h1, He.eqO_ok h2, of_decide_eq_true h3, ?_⟩
  unfold He5.wf
  split at h4
  · rename_i a r e
    rw [e]
    exact ⟨r, rfl⟩
  · cases h4
/-! ### the Hook with defs at any address -/
def hookY (n : Nat) (fa : List He.Fa) (fn : List He.DefD) (tf : List He.Defn) (ex : PySem.W.Frag → Bool) (fn2 : List He5.DefA) : PySem.W.Hook where
  α := He.AlX × He.AlD
  obs := fun s => (He.obsX n fa fn [] tf ex s.heap.get?, He5.obsA [] fn2 (He.frT s.heap.get? (He.asD s.heap.get? n)))
  val := fun w => (He.valX fn [] w, He5.valA fn2)
  says := fun w h => ∃ K : PySem.W.Frag, K.In h ∧ He.SaysX fa fn [] tf ex w h K ∧ He5.SaysA [] fn2 K
  of := fun _ _ e => ⟨_, He.frT_in, He.saysX_of (congrArg (fun z : He.AlX × He.AlD => z.1) e), congrArg (fun z : He.AlX × He.AlD => z.2) e⟩
  keeps := fun _ _ _ ⟨K, hK, c, c2⟩ k => ⟨K, PySem.W.Frag.In.keeps hK k, ⟨c.t, c.more, c.hd, c.out, fun p hp => k _ _ (c.empty p hp)⟩, c2⟩
def obsY (n : Nat) (fa : List He.Fa) (fn : List He.DefD) (tf : List He.Defn) (ex : PySem.W.Frag → Bool) (fn2 : List He5.DefA) (g : Addr → Option Obj) : He.AlX × He.AlD := (He.obsX n fa fn [] tf ex g, He5.obsA [] fn2 (He.frT g (He.asD g n)))
theorem obsY_eq {n : Nat} {fa : List He.Fa} {fn : List He.DefD} {tf : List He.Defn} {ex : PySem.W.Frag → Bool} {fn2 : List He5.DefA} {g : Addr → Option Obj} {s : Shared} (h : ∀ a, g a = s.heap.get? a) : obsY n fa fn tf ex fn2 g = (hookY n fa fn tf ex fn2).obs s := by
  have e : g = s.heap.get? := funext h
  rw [e] <;> rfl
end VY
end
section
set_option Elab.async false
set_option linter.all false
set_option maxRecDepth 100000
set_option maxHeartbeats 2000000
/-! a new object whose fields are written once more; sorted({..}) where nothing is taken -/
namespace VY
open PySem PySem.Spec PyProof.Rows L2 VL
variable [LawTabs]
/-! ### z = f(..); z.f = e; ..; return z -/
def tISr (K : PySem.W.Frag) (C : Str) (sl : Nat) (E : XK) (g : IX) : TS := fun D σ H => ∃ φ0 H0 x φ ρ μ fs, IS K C sl φ0 H0 x φ σ H ρ μ fs ∧ RsP K φ0 H0 E (fun r μ' => ∀ φ' σ' H', IS K C sl φ0 H0 x φ' σ' H' r.2 μ' r.1 → D.rt (.ref x) H') (g fs ρ μ)
def emptyAt (ρ : Rho) (sl : Nat) : Bool := match ρ[sl]? with
  | some none => true
  | _ => false
def zofB (C : Str) (sl : Nat) (f : EX) (g : IX) (ρ : Rho) : RM (Fs × Rho) := bd (f ρ []) fun w μ1 => match μ1 with
  | [] => (match obC w with
    | some (C', fs) => bif decide (C' = C) && emptyAt ρ sl then g fs ρ [] else none
    | none => none)
  | _ => none
def tZof (K : PySem.W.Frag) (C : Str) (sl : Nat) (E : XK) (f : EX) (g : IX) : TS := fun D σ H => ∃ φ ρ, RS K φ σ H ρ [] ∧ RsP K φ H E (fun r μ' => ∀ φ' x σ' H', IS K C sl φ H x φ' σ' H' r.2 μ' r.1 → D.rt (.ref x) H') (zofB C sl f g ρ)
section
variable {X : Cx} {C : Str} {sl : Nat} {E : XK} {pos pos' p : Pos} {e : Expr} {st : Stmt} {rest : List Stmt} {z : Str}
theorem isr_ret (hN : X.N[sl]? = some z := by rfl) (hv : Vis X.env.scope z := by first | exact Or.inl rfl | exact Or.inr (Or.inl rfl) | exact Or.inr (Or.inr rfl)) (hd : (z == ("__debug__" : Str)) = false := by decide) (hcd : (z == ("__classdict__" : Str)) = false := by decide) :
    PSs X [.Return (some (.Name z p)) pos] (tISr X.K C sl E iNil) := PSs.to (pss_one (ps_ret (pe_var hN hv hd hcd))) fun D σ H ⟨φ0, H0, x, φ, ρ, μ, fs, i, k⟩ => ⟨.ref x, i.s0, k φ σ H i⟩
theorem isr_cons {g h : IX} (h1 : PS X st (tIS X.K C sl E g)) (h2 : PSs X rest (tISr X.K C sl E h)) : PSs X (st :: rest) (tISr X.K C sl E (iSeq2 g h)) := PSs.to (pss_cons h1 h2) fun D σ H ⟨φ0, H0, x, φ, ρ, μ, fs, i, k⟩ =>
  ⟨φ0, H0, x, φ, ρ, μ, fs, i, RsP.bd k fun r μ1 _ k1 φ' σ' H' i' => ⟨φ0, H0, x, φ', r.2, μ1, r.1, i', k1⟩⟩
theorem zof_cons {f : EX} {g : IX} (hN : X.N.Nodup) (he : PE X e (tXF X.K (wf E) f)) (h2 : PSs X rest (tISr X.K C sl E g)) (hi : X.N[sl]? = some z := by rfl) (hx : Loc X.env.scope z := by first | exact Or.inl rfl | exact Or.inr rfl) (hs : swapsWith e (some (.Name z pos')) pos.line X.env = pure false := by rfl)
    (hf : X.fn z = true ∨ X.env.scope.names.lookup z = some .local := by first | exact .inl rfl | exact .inr rfl) : PSs X (.Assign [.Name z pos'] e pos :: rest) (tZof X.K C sl E f g) := PSs.to (pss_cons (ps_set hN hi hx he hs hf) h2) fun D σ H ⟨φ, ρ, rs, k⟩ => by
  refine ⟨φ, ρ, [], rs, ?_⟩
  unfold zofB at k
  cases e1 : f ρ [] with
  | none => rw [e1] at k; exact k.elim
  | some r =>
    rw [e1] at k
    cases r with
    | ex y μ1 => exact k
    | ok w μ1 =>
      intro φ1 x H1 g1 c1 o1 hx0
      simp only [bd] at k
      split at k
      · split at k
        · rename_i C' fs hw
          have hw := obC_eq hw
          subst hw
          cases hb : decide (C' = C) && emptyAt ρ sl with
          | false => rw [hb] at k; exact k.elim
          | true =>
            rw [hb] at k
            obtain ⟨b1, b2⟩ := He.ba hb
            have b1 := of_decide_eq_true b1
            subst b1
            have hρ : ρ[sl]? = some none := by
              unfold emptyAt at b2
              split at b2
              · assumption
              · cases b2
            obtain ⟨C2, fs2, dx, vs, eo, hn, hobj, hd⟩ := o1
            cases eo
            have p0 : φ1.2 = [] := List.eq_nil_of_length_eq_zero c1.len
            have g2 : Grow φ (φ1.1 ++ [x], φ1.2) H H1 := by
              obtain ⟨χ, q1, q2⟩ := g1.fst
              refine ⟨⟨χ ++ [x], by rw [q1, List.append_assoc], fun a ha => ?_⟩, g1.pre, g1.ext, g1.live⟩
              rcases List.mem_append.mp ha with ha | ha
              · exact q2 a ha
              · rw [List.mem_singleton.mp ha]; exact hx0
            have c2 : Cells X.K (φ1.1 ++ [x], φ1.2) H1 [] := by
              refine ⟨c1.nd, c1.len, fun n a ds _ z => by simp at z, fun a ha => ?_, c1.tb⟩
              rcases List.mem_append.mp ha with ha | ha
              · exact c1.tr a ha
              · rw [List.mem_singleton.mp ha, hobj]; simp
            have r2 := rs.step g2.w c2
            refine ⟨φ, H, x, (φ1.1 ++ [x], φ1.2), ρ, [], fs, ⟨g2, hx0, List.mem_append_right _ (List.mem_singleton.mpr rfl), by rw [p0]; simp, ⟨c2, by rw [List.length_set]; exact r2.len, fun i w h => ?_⟩, ?_, dx, vs, hobj, ?_⟩, ?_⟩
            · by_cases hi : sl = i
              · subst hi; rw [hρ] at h; cases h
              · rw [List.getElem?_set_ne hi]; exact r2.at_ i w h
            · have hl : sl < σ.length := by rw [rs.len]; exact (List.getElem?_eq_some_iff.mp hρ).1
              rw [List.getElem?_set_self hl]
            · refine DaFs.weak (fun a ha => ?_) _ _ hd
              rcases List.mem_append.mp ha with ha | ha
              · rcases List.mem_append.mp ha with ha | ha
                · exact List.mem_cons_of_mem _ (List.mem_append_left _ ha)
                · rw [List.mem_singleton.mp ha]; exact List.mem_cons_self ..
              · exact List.mem_cons_of_mem _ (List.mem_append_right _ ha)
            · exact RsP.imp k fun r μ2 pr φ' σ' H' i => pr φ' x σ' H' i
        · exact k.elim
      · exact k.elim
end
def zofM (n : Nat) (C : Str) (sl : Nat) (f : EX) (g : IX) : YM := fun μ ws => match μ with
  | [] => (match zofB C sl f g (ws.map some ++ List.replicate (n - ws.length) none) with
    | some (.ok r _) => some (.ok (.d (obD C r.1)) [])
    | some (.ex e _) => some (.ex e [])
    | none => none)
  | _ => none
section
variable {P : Program} {w : World} {K : PySem.W.Frag} {mg : Str → Option Value} {base : Heap} {k : Nat} {C : Str} {sl : Nat}
theorem calZ_ok {x : Str} {params : Arguments} {body : List Stmt} {scope : Scope} {fd : FuncData} {N ps : List Str} {f : EX} {g : IX} (hf : mg x = some (.ref (He.ga K x))) (F : FunD K x x params body scope [] [] (He.ga K x) fd) (S : FnScope N ps scope)
    (hb : ∀ (kV doc pm : Value) (an : Option Addr) (cdv ct : Value) (us : List Value), us.length = ps.length → bindArgs (PySem.W.fnOf x x params body scope .none kV doc pm an cdv ct) ⟨us, []⟩ = pure (ps.zip us))
    (h : ∀ (cdv : Value) (A : Around) (outer : List Env) (s : Shared) (H : Hp) (E : XK), RoomG k (A.deeper (envOfC x scope s.heap.objs.size (He.ga K x) cdv)) → PSs (cxOf (L2.CX P w) P w K mg base N x scope (He.ga K x) cdv A outer s H E) body (tZof K C sl E f g)) :
    CalY P w K mg base (k + 1) x ps.length (zofM N.length C sl f g) := by
  refine ⟨fd, ps, ⟨fun vs H Q E ⟨φ, μ, ws, c, r, hl, k⟩ => by rw [← r.len, hl], fun A outer s H args us vs Q E hr e0 hb r hsp => ?_⟩, hf, F.kp, F.bindsN hb⟩
  have len : vs.length = ps.length := by obtain ⟨φ, μ, ws, c, r, hl, k⟩ := hsp; rw [← r.len, hl]
  obtain ⟨oc, od, dV, kV, doc, pm, an, cdv, ct, osl, rfl, lk, hcd, _, _⟩ := F.ex
  refine LamX.run_ofS lk hcd S hr.r e0 hb r len fun _ => ⟨_, h cdv A outer s H E (hr.deeper _), ?_⟩
  obtain ⟨φ, μ, ws, c, rv, hl, kk⟩ := hsp
  cases μ with
  | cons a b => exact kk.elim
  | nil =>
    refine ⟨φ, _, rvs_start c rv, ?_⟩
    unfold zofM at kk
    dsimp only at kk
    cases e : zofB C sl f g (ws.map some ++ List.replicate (N.length - ws.length) none) with
    | none => rw [e] at kk; exact kk.elim
    | some q =>
      rw [e] at kk
      cases q with
      | ex y μ1 => exact XP.cut c kk
      | ok r μ1 =>
        intro φ' x σ' H' i
        obtain ⟨dx', vs2, h5, h6⟩ := i.ob
        exact kk φ (.ref x) H' (cut_grow i.g) (cut_cells c i.g i.rs.c) (.inr (.inr (.inr ⟨C, x, dx', vs2, rfl, rfl, rfl, c.notin i.hx, h5, DaFs.weak (sub_av i.g) _ _ h6⟩)))
end
/-! ### sorted({..}) where nothing is taken -/
open PpSet in
theorem setE {w : World} {h : Heap} {a : Addr} (R : SetB w h a (fun _ => false) 0) : SetR w h a (fun _ => false) 0 := by
  obtain ⟨o, es, ep, t, h1, h2, h3, h4, h5, h6, h7, h8, h9, h10⟩ := R
  have e : es = #[] := Array.eq_empty_of_size_eq_zero h9
  subst e
  exact ⟨o, #[], ep, t, h1, h2, h3, (fun e he => by simp at he), (by simp), (fun k => by simp), h7, h8, h9, h10⟩
open PpSet in
theorem setE2 {w : World} {h : Heap} {a : Addr} (R : SetR w h a (fun _ => false) 0) : SetB w h a (fun _ => false) 0 := by
  obtain ⟨o, es, ep, t, h1, h2, h3, h4, h5, h6, h7, h8, h9, h10⟩ := R
  have e : es = #[] := Array.eq_empty_of_size_eq_zero h9
  subst e
  exact ⟨o, #[], ep, t, h1, h2, h3, (fun e he => by simp at he), (by simp), (fun k => by simp), h7, h8, h9, h10⟩
open PpSet in
theorem cr_sortedE {X : Cx} (hc : X.calm = true) : CallR X (.builtin "sorted") (fun xs H Q => ∃ D, xs = [.ref D] ∧ H D = some (SetBO X.w D (fun _ => false) 0) ∧ ∀ q, H q = none → Q (.ref q) (upd H q (.lst []))) := by
  intro pins s σ H vs us Q I r ⟨D, e, hD, q⟩
  subst e
  have R := setBO_get I hD
  have ho : ∃ o, s.heap.get? D = some o := by obtain ⟨o, _, _, _, ho, _⟩ := R; exact ⟨o, ho⟩
  have I1 : Inv X pins σ (upd H D (SetO X.w D (fun _ => false) 0)) s := I.write (x := D) (e := D) (h' := s.heap) (t' := s.toks) (by rw [hD]; trivial) (.inl rfl) (fun b u _ h => h) ho (setO_new (setE R))
  refine thn (cr_sortedSet hc pins s σ (upd H D (SetO X.w D (fun _ => false) 0)) [.ref D] us (fun v H' => ∃ l, v = .ref l ∧ H' = upd (upd H D (SetO X.w D (fun _ => false) 0)) l (.lst []) ∧ l ≠ D ∧ H l = none) I1 r ⟨D, _, 0, rfl, upd_same, by decide, fun ns p hs hm hl hp => ?_⟩) fun u s' ⟨v, H', I', rv, l, ev, eH, hl, hq⟩ => ?_
  · have hpD : p ≠ D := fun z => by subst z; rw [upd_same] at hp; cases hp
    have en : ns = [] := List.eq_nil_of_length_eq_zero hl
    subst en
    exact ⟨p, rfl, rfl, hpD, by rw [upd_ne hpD] at hp; exact hp⟩
  · subst ev eH
    have h2 : upd (upd H D (SetO X.w D (fun _ => false) 0)) l (.lst []) D = some (SetO X.w D (fun _ => false) 0) := by rw [upd_ne hl.symm, upd_same]
    have R2 := setO_get I' h2
    have ho2 : ∃ o, s'.heap.get? D = some o := by obtain ⟨o, _, _, _, ho, _⟩ := R2; exact ⟨o, ho⟩
    have I2 := I'.write (x := D) (e := D) (h' := s'.heap) (t' := s'.toks) (by rw [h2]; trivial) (.inl rfl) (fun b u _ h => h) ho2 (setBO_new (setE2 R2))
    have eq : upd (upd (upd H D (SetO X.w D (fun _ => false) 0)) l (.lst [])) D (SetBO X.w D (fun _ => false) 0) = upd H l (.lst []) := by
      funext b
      by_cases hb : b = D
      · subst hb; rw [upd_same, upd_ne hl.symm, hD]
      · rw [upd_ne hb]
        by_cases hbl : b = l
        · subst hbl; rw [upd_same, upd_same]
        · rw [upd_ne hbl, upd_ne hb, upd_ne hbl]
    rw [eq] at I2
    exact ⟨.ref l, _, I2, rv, q l hq⟩
@[simp] noncomputable def eScE (fi : IF) (t : TF) (tt : BF) (vs : List Nat) (ρ : Rho) (μ : Mu) : Option (Vw × Mu) := match fi ρ μ with
  | some (ds, src, μ1) => (match VC.lcM t tt (fun _ _ => none) src ds ds (wipeR ρ vs) μ1 with
    | some ([], μ2) => some (.d (.list []), μ2)
    | _ => none)
  | none => none
open PpSet in
theorem sc_loopE {K : PySem.W.Frag} {w : World} {t : TF} {tt : BF} {te : TE} {src : Option Nat} {ds : List PyData} {ws vs : List Nat} {J : It} {φ : Ph} {H : Hp} {σ : L2.St} {ρ : Rho} {μ μ9 : Mu} {D : Addr} {Qd : Hp → Prop} (rs : RS K φ σ H ρ μ) (wk : Wk K φ H ds src J) (hD : H D = none)
    (hvs : ∀ i ∈ ws, i ∈ vs) (e : VL.lcM t tt (fun _ _ => none) src ds ds (wipeR ρ vs) μ = some ([], μ9)) (hd : ∀ φ2 H2, Grow φ φ2 (upd H D (SetBO w D (fun _ => false) 0)) H2 → Cells K φ2 H2 μ9 → Qd H2) :
    ∃ W : Nat → Nat → Hp → Prop, (∃ m, W 0 m (upd H D (SetBO w D (fun _ => false) 0))) ∧ ∀ i m H, W i m H →
      (J.stop i H ∧ Qd H) ∨ (J.go i H ∧ ∃ Nx : Hp → Prop, (∀ H', Nx H' → ∃ m', m' < m ∧ W (i + 1) m' H') ∧ ∀ x H', J.yld i H x H' → tG K t ws x (L2.wipe σ vs) H' fun σ2 H2 => L2.wipe σ2 vs = L2.wipe σ vs ∧ tT K tt σ2 H2 fun b H3 =>
        if b = true then te σ2 H3 fun y H4 => ∃ (c : Bool) (S : Bool → Bool) (n : Nat), y = .bl c ∧ H4 D = some (SetBO w D S n) ∧ n + 1 < scanBound ∧ Nx (upd H4 D (SetBO w D (fun j => S j || decide (j = c)) (if S c = true then n else n + 1))) else Nx H3) := by
  have g0 : Grow φ φ H (upd H D (SetBO w D (fun _ => false) 0)) := Grow.laid hD
  refine ⟨fun i m H' => m = ds.length - i ∧ ∃ φ2 μ2, Grow φ φ2 (upd H D (SetBO w D (fun _ => false) 0)) H' ∧ Cells K φ2 H' μ2 ∧ VL.lcM t tt (fun _ _ => none) src ds (ds.drop i) (wipeR ρ vs) μ2 = some ([], μ9), ⟨_, rfl, φ, μ, .refl _ _, rs.c.laid hD, e⟩, ?_⟩
  rintro i m H2 ⟨rfl, φ2, μ2, g, c, e2⟩
  have gw : Grow φ φ2 H H2 := g0.trans g
  cases hdi : ds.drop i with
  | nil =>
    rw [hdi] at e2
    unfold VL.lcM at e2
    split at e2
    · rename_i hsrc
      cases e2
      exact .inl ⟨(wk φ2 H2 _ gw.w c hsrc i).2 (List.drop_eq_nil_iff.mp hdi), hd φ2 H2 g c⟩
    · cases e2
  | cons d r =>
    rw [hdi] at e2
    have hil : i < ds.length := by
      by_cases z : i < ds.length
      · exact z
      · rw [List.drop_eq_nil_iff.mpr (by omega)] at hdi; cases hdi
    have hdg : ds[i]? = some d := by
      have := List.getElem?_drop (xs := ds) (i := i) (j := 0)
      rw [hdi] at this
      simpa using this.symm
    have hdr : ds.drop (i + 1) = r := by
      have : (ds.drop i).drop 1 = ds.drop (i + 1) := by rw [List.drop_drop]
      rw [← this, hdi]; rfl
    unfold VL.lcM at e2
    split at e2
    · rename_i hsrc
      obtain ⟨go, hy⟩ := (wk φ2 H2 μ2 gw.w c hsrc i).1 d hdg
      refine .inr ⟨go, fun H' => ∃ φ3 μ3, Grow φ φ3 (upd H D (SetBO w D (fun _ => false) 0)) H' ∧ Cells K φ3 H' μ3 ∧ VL.lcM t tt (fun _ _ => none) src ds (ds.drop (i + 1)) (wipeR ρ vs) μ3 = some ([], μ9), fun H' hN => ⟨ds.length - (i + 1), by omega, rfl, hN⟩, fun x H3 hyl => ?_⟩
      obtain ⟨g3, c3, hx⟩ := hy x H3 hyl
      split at e2
      · cases e2
      · rename_i ρ3 e3
        have rs3 : RS K φ2 (L2.wipe σ vs) H3 (wipeR ρ vs) μ2 := (rs.wipe vs).step (gw.trans g3).w c3
        refine ⟨φ2, _, μ2, .d d, ρ3, rs3, hx, e3, fun σ4 rs4 w4 => ⟨?_, ?_⟩⟩
        · have := w4 vs hvs
          rw [this]
          exact wipe_same fun i hi z hz => (wipe_some hz).2 hi
        · split at e2
          · cases e2
          · rename_i μ4 e4
            exact ⟨φ2, ρ3, μ2, false, μ4, rs4, e4, fun φ5 H5 g5 c5 => L2.iteF ⟨φ5, μ4, (g.trans g3).trans g5, c5, by rw [hdr]; exact e2⟩⟩
          · cases e2
    · cases e2
section
open PpSet
variable {X : Cx} {elt tg iter : Expr} {ifs : List Expr} {scope : Scope} {own : List (Str × Nat)} {p pos pos2 : Pos} {fi : IF} {t : TF} {tt : BF} {ws : List Nat}
theorem ej_scE (hc : X.calm = true) (hN : X.N.Nodup) (hi : PI X tg iter (tI X.K fi)) (ok : BlkOk X.N X.env.scope scope own) (hvs : ∀ i ∈ ws, i ∈ own.map (·.2))
    (hg : ∀ (s : Shared) (H : Hp) (C : Addr) (cl : List (Str × Addr)) (fp : List Addr), PG (X.blk s H scope (compEnvC scope cl C X.env) fp) tg (tG X.K t ws)) (ht : ∀ (s : Shared) (H : Hp) (C : Addr) (cl : List (Str × Addr)) (fp : List Addr), PTs (X.blk s H scope (compEnvC scope cl C X.env) fp) ifs (tT X.K tt))
    (hm : X.mg "sorted" = none) (hs : ∀ x, foldedSetIterable iter X.env x = pure x := by intro _; rfl) (hgl : Gl X "sorted" := by rfl)
    (he : starEach [.SetComp elt [⟨tg, iter, ifs, 0⟩] scope pos2] X.env = (false, eval (.SetComp elt [⟨tg, iter, ifs, 0⟩] scope pos2) X.env) :: starEach [] X.env := by rfl) (hpl : (backTo pos (starEach [] X.env)).any (·.1) = false := by rfl) :
    PE X (.Call (.Name "sorted" p) [.SetComp elt [⟨tg, iter, ifs, 0⟩] scope pos2] [] pos) (tE X.K (eScE fi t tt (own.map (·.2)))) :=
  PE.to (pe_callB (cr_sortedE hc) hgl hm (by decide +kernel) (pa_cons (pe_sc (te := fun _ _ _ => False) hc hN hi ok hg ht (fun _ _ _ _ _ => ⟨fun _ _ _ _ _ _ h => h.elim⟩) hs) pa_nil he) (by decide) (by decide) he hpl) fun σ H Q ⟨φ, ρ, μ, w, μ', rs, e, k⟩ => by
    unfold eScE at e
    split at e
    · rename_i ds src μ1 e1
      split at e
      · rename_i μ2 e2
        cases e
        rw [← VC.lcM_eq] at e2
        refine ⟨φ, ρ, μ, ds, src, μ1, rs, e1, fun φ1 J H1 g1 c1 wk D hD => ?_⟩
        refine sc_loopE (w := X.w) (te := fun _ _ _ => False) (Qd := fun H2 => ∃ D', [V.ref D] = [V.ref D'] ∧ H2 D' = some (SetBO X.w D' (fun _ => false) 0) ∧ ∀ q, H2 q = none → Q (.ref q) (upd H2 q (.lst []))) (rs.step g1.w c1) wk hD hvs e2 fun φ2 H2 g2 c2 => ⟨D, rfl, g2.ext D _ upd_same (fun _ ys z => by unfold SetBO at z; cases z) (fun ps z => by unfold SetBO at z; cases z), fun q hq => ?_⟩
        exact new_lst (ps := []) c2 rfl (fun φ4 v4 H4 g4 c4 r4 => k φ4 v4 H4 (((g1.trans (Grow.laid hD)).trans g2).trans g4) c4 r4) q hq
      · cases e
    · cases e
end
end VY
end
section
set_option Elab.async false
set_option linter.all false
set_option maxRecDepth 100000
set_option maxHeartbeats 2000000
/-! zip of a list with a tuple -/
namespace VY
open PySem PySem.Spec PyProof.Rows L2 VL
variable [LawTabs]
def ItzW (K : PySem.W.Frag) (n : Nat) (a b : Addr) : It :=
  ⟨fun i H => ∃ (xs ys : List V) (x y : V), SqL K H a xs ∧ SqT K H b ys ∧ xs[i]? = some x ∧ ys[i]? = some y ∧ i < n,
    fun i H v H' => ∃ T x y, v = .ref T ∧ H T = none ∧ H' = upd H T (.tup [x, y]) ∧ (∀ l, SqL K H a l → l[i]? = some x) ∧ (∀ l, SqT K H b l → l[i]? = some y),
    fun i H => ∃ xs ys : List V, SqL K H a xs ∧ SqT K H b ys ∧ n ≤ xs.length ∧ n ≤ ys.length ∧ (n = xs.length ∨ n = ys.length) ∧ n ≤ i⟩
theorem turn_zipW {P : Program} {w : World} {K : PySem.W.Frag} {elts : List Expr} {kk : Nat} {tpos : Pos} {n : Nat} {a b z TI TO i1 i2 : Addr} (D : ZipSep2 z TI TO i1 i2 [i1, a] [i2, b]) :
    Turn P w K (.Tuple elts kk tpos) (ItzW K n a b) [z, TI, TO, i1, i2] z (fun i h => i ≤ n ∧ IsZip h z TI TO .none ∧ IsTupOf2 h TI (.ref i1) (.ref i2) ∧ (∃ x y, IsTupOf2 h TO x y) ∧ h.IsListIter i1 a i ∧ h.IsTupleIter i2 b i) where
  mem := by simp
  obj := fun i h st q hq => by
    obtain ⟨_, hz, hTI, ⟨x, y, hTO⟩, ⟨o1, e1, _, d1⟩, ⟨o2, e2, _, d2⟩⟩ := st
    simp only [List.mem_cons, List.not_mem_nil, or_false] at hq
    rcases hq with rfl | rfl | rfl | rfl | rfl
    · exact ⟨_, hz, fun v q => nomatch q⟩
    · exact ⟨_, hTI, fun v q => nomatch q⟩
    · exact ⟨_, hTO, fun v q => nomatch q⟩
    · exact ⟨o1, e1, fun v q => by rw [d1] at q; cases q⟩
    · exact ⟨o2, e2, fun v q => by rw [d2] at q; cases q⟩
  keep := fun i h h' st k => by
    obtain ⟨hin, hz, hTI, ⟨x, y, hTO⟩, h1, h2⟩ := st
    exact ⟨hin, k z (by simp) _ hz, k TI (by simp) _ hTI, ⟨x, y, k TO (by simp) _ hTO⟩, h1.at fun o q => k i1 (by simp) o q, h2.at fun o q => k i2 (by simp) o q⟩
  item := by
    intro X hP hw hK hc i pins s σ H E I hf st hg
    subst hP hw hK
    obtain ⟨hin, hz, hTI, ⟨x0, y0, hTO⟩, h1, h2⟩ := st
    obtain ⟨xs, ys, x, y, hqx, hqy, hx, hy, hlt⟩ := hg
    obtain ⟨its, rv, p, _⟩ := I.list hqx
    obtain ⟨its2, rv2, p2, _⟩ := I.tuple hqy
    obtain ⟨u1, hu1, ru1⟩ := rv.get hx
    obtain ⟨u2, hu2, ru2⟩ := rv2.get hy
    have hzl : z < s.heap.objs.size := Heap.lt_size hz
    have hh : X.A.in1.handled = none := I.ok.hd hc
    have ne1 : a ≠ i1 := by obtain ⟨_, q, qc, _⟩ := id h1; exact lst_ne p.isList q qc
    have ne2 : b ≠ i2 := by obtain ⟨_, q, qc, _⟩ := id h2; exact tup_ne p2 q qc (by decide)
    have lt : ∀ {l : List Value} {u : Value}, l[i]? = some u → i < l.toArray.size := fun h => by
      have := (List.getElem?_eq_some_iff.mp h).1
      simpa using this
    refine wpAny_pyNext_zipD2_item D (Draws.list hh i1 a ne1 its.toArray) (Draws.tuple hh i2 b ne2 its2.toArray) hz hTI hTO ⟨h1, p.isList⟩ ⟨h2, show s.heap.IsTuple b its2.toArray from p2⟩ (lt hu1) (lt hu2) fun y1 y2 h' tk e1 e2 z' TO' h1' h2' hT hsz hk => ?_
    have same : ∀ {l : List Value} {u y : Value}, l.toArray[i]? = some y → l[i]? = some u → y = u := fun {l u y} h h2 => by
      have h' : l[i]? = some y := by simpa using h
      rw [h'] at h2; cases h2; rfl
    obtain rfl := same e1 hu1
    obtain rfl := same e2 hu2
    refine ⟨_, rfl, wpAny_letOwnedTupleGo_zip (s := { s with heap := h', toks := tk }) z' fun h'' z'' sb => ?_⟩
    have hT2 : h''.get? s.heap.objs.size = some { cls := .type "tuple", data := .seq #[y1, y2] } := (sb.2 _ (Nat.ne_of_gt hzl)).trans hT
    have new : ObjOk X.prog X.w (upd H s.heap.objs.size (.tup [x, y])) h'' s.heap.objs.size (.tup [x, y]) :=
      ⟨by show 2 ≤ sizeLine; decide, [y1, y2], .cons ru1 (.cons ru2 .nil), ⟨_, hT2, rfl, _, rfl⟩⟩
    have I1 : Inv X pins σ (upd H s.heap.objs.size (.tup [x, y])) { s with heap := h'', toks := tk } :=
      I.turnedNew (t' := tk) (ch := [z, TI, TO, i1, i2]) (fun q o hb e => (sb.2 q (fun q' => hb (by simp [q']))).trans (hk q o (fun q' => hb (by simp [q'])) (fun q' => hb (by simp [q'])) (fun q' => hb (by simp [q'])) (fun q' => hb (by simp [q'])) e)) hf (Nat.le_refl _) new
    have zi1 : i1 ≠ z := fun q => D.zf1 (by simp [q])
    have zi2 : i2 ≠ z := fun q => D.zf2 (by simp [q])
    refine ⟨.ref s.heap.objs.size, _, I1, rfl, ⟨_, x, y, rfl, I.hok.fresh (Nat.le_refl _), rfl, fun l hl => by rw [I.list_inj hl hqx]; exact hx, fun l hl => by rw [I.tuple_inj hl hqy]; exact hy⟩, ⟨hlt, z'', ?_, ⟨y1, y2, ?_⟩, ?_, ?_⟩, fun q hq => ?_⟩
    · exact (sb.2 _ D.TIz).trans (hk _ _ D.TIz D.TITO D.TIi1 D.TIi2 hTI)
    · exact (sb.2 _ D.TOz).trans TO'
    · exact h1'.1.at fun o q => (sb.2 _ zi1).trans q
    · exact h2'.1.at fun o q => (sb.2 _ zi2).trans q
    · have hqs : q < s.heap.objs.size := by
        have hq' := hq
        simp only [List.mem_cons, List.not_mem_nil, or_false] at hq'
        rcases hq' with r | r | r | r | r
        · rw [r]; exact hzl
        · rw [r]; exact Heap.lt_size hTI
        · rw [r]; exact Heap.lt_size hTO
        · rw [r]; obtain ⟨_, e, _⟩ := h1; exact Heap.lt_size e
        · rw [r]; obtain ⟨_, e, _⟩ := h2; exact Heap.lt_size e
      rw [upd_ne (Nat.ne_of_lt hqs)]
      exact (hf q hq).1
  done := by
    intro X hP hw hK hc i pins s σ H E I hf st hg
    subst hP hw hK
    obtain ⟨hin, hz, hTI, ⟨x0, y0, hTO⟩, h1, h2⟩ := st
    obtain ⟨xs, ys, hqx, hqy, l1, l2, hend, hni⟩ := hg
    obtain ⟨its, rv, p, _⟩ := I.list hqx
    obtain ⟨its2, rv2, p2, _⟩ := I.tuple hqy
    have hh : X.A.in1.handled = none := I.ok.hd hc
    have ne1 : a ≠ i1 := by obtain ⟨_, q, qc, _⟩ := id h1; exact lst_ne p.isList q qc
    have ne2 : b ≠ i2 := by obtain ⟨_, q, qc, _⟩ := id h2; exact tup_ne p2 q qc (by decide)
    have r1 := rv.length
    have r2 := rv2.length
    refine wpAny_pyNext_zipD2_end D (Draws.list hh i1 a ne1 its.toArray) (Draws.tuple hh i2 b ne2 its2.toArray) hz hTI hTO ⟨h1, p.isList⟩ ⟨h2, show s.heap.IsTuple b its2.toArray from p2⟩ (by simp; omega) (by simp; omega) (by simp; omega) fun h' tk hk => ?_
    exact ⟨rfl, I.turnedL (t' := tk) (ch := [z, TI, TO, i1, i2]) (fun q o hb e => hk q o (fun q' => hb (by simp [q'])) (fun q' => hb (by simp [q'])) (fun q' => hb (by simp [q'])) (fun q' => hb (by simp [q'])) e) hf⟩
  self := fun A i s Q E st h => wpAny_pyIter_zip st.2.1 h
def iZipWA (K : PySem.W.Frag) (ta : TA) : TI := fun σ H R => ta σ H fun vs H1 => ∃ n a b xs ys, vs = [.ref a, .ref b] ∧ SqL K H1 a xs ∧ SqT K H1 b ys ∧ R (ItzW K n a b) H1
theorem pi_zipW {X : Cx} {e e2 : Expr} {ta : TA} {p pos tpos : Pos} {elts : List Expr} {kk : Nat} (hg : Gl X "zip") (hm : X.mg "zip" = none) (ha : PA X [e, e2] ta)
    (hs : starEach [e, e2] X.env = (false, eval e X.env) :: starEach [e2] X.env := by rfl) (hpl : (backTo pos (starEach [e2] X.env)).any (·.1) = false := by rfl) :
    PI X (.Tuple elts kk tpos) (.Call (.Name "zip" p) [e, e2] [] pos) (iZipWA X.K ta) := by
  refine ⟨fun pins s σ H R I h => ?_⟩
  refine Call_ (ld_blt I hg hm boot_zip (PyProof.Rows.callWith_type1 (thn (ha.run pos pins s σ H _ I h) fun us s1 ⟨vs, H1, I1, r1, q1⟩ => ?_) hs hpl))
  obtain ⟨n, a, b, xs, ys, ex, hx, hy, q⟩ := q1
  subst ex
  obtain ⟨u1, u2, rfl, ra, rb⟩ : ∃ u1 u2, us = [u1, u2] ∧ RelV (.ref a) u1 ∧ RelV (.ref b) u2 := by
    cases r1 with
    | cons r rr =>
      cases rr with
      | cons r2 rr2 =>
        cases rr2
        exact ⟨_, _, rfl, r, r2⟩
  obtain rfl : u1 = .ref a := ra
  obtain rfl : u2 = .ref b := rb
  obtain ⟨i1, _, p1, _⟩ := I1.list hx
  obtain ⟨i2, _, p2, _⟩ := I1.tuple hy
  have lt : ∀ {t : Addr} {its : Array Value}, IsTup s1.heap t its → t < s1.heap.objs.size := fun ⟨_, e, _⟩ => Heap.lt_size e
  have lt2 : a < s1.heap.objs.size := by obtain ⟨_, e, _⟩ := p1.isList.typeIs; exact Heap.lt_size e
  refine zip_begins2 (begins_list a i1.toArray) (begins_tuple b i2.toArray) p1.isList (show s1.heap.IsTuple b i2.toArray from p2) fun h' hzp hTI hTO g1 g2 _ hk => wpAny_pyIter_zip hzp ?_
  refine ⟨s1.heap.objs.size + 4, [s1.heap.objs.size + 4, s1.heap.objs.size + 2, s1.heap.objs.size + 3, s1.heap.objs.size, s1.heap.objs.size + 1], _, _, H1, rfl, I1.kept (t' := s1.toks) hk,
    turn_zipW (zip_sep2 (fp1 := [a]) (fp2 := [b]) (by simpa using lt2) (by simpa using lt p2)), ⟨Nat.zero_le _, hzp, hTI, ⟨_, _, hTO⟩, ⟨_, g1, rfl, rfl⟩, ⟨_, g2, rfl, rfl⟩⟩, fun q hq => ?_, q⟩
  have hle : s1.heap.objs.size ≤ q := by
    simp only [List.mem_cons, List.not_mem_nil, or_false] at hq
    rcases hq with r | r | r | r | r <;> rw [r] <;> first | exact Nat.le_refl _ | exact Nat.le_add_right _ _
  exact I1.fpOk hle (I1.hok.fresh hle)
def iZipW (f g : EF) (ρ : Rho) (μ : Mu) : Option (List PyData × Option Nat × Mu) := match f ρ μ with
  | some (.d (.list xs), μ1) => (match g ρ μ1 with
    | some (.d (.tuple ys), μ2) => some (zipD xs ys, none, μ2)
    | _ => iZipM f g ρ μ)
  | _ => iZipM f g ρ μ
theorem ij_zipW {X : Cx} {e e2 : Expr} {elts : List Expr} {kk : Nat} {f g : EF} {p pos tpos : Pos} (hm : X.mg "zip" = none) (he : PE X e (tE X.K f)) (he2 : PE X e2 (tE X.K g)) (hg : Gl X "zip" := by rfl)
    (hs : starEach [e, e2] X.env = (false, eval e X.env) :: starEach [e2] X.env := by rfl) (hs2 : starEach [e2] X.env = (false, eval e2 X.env) :: starEach [] X.env := by rfl) (hpl : (backTo pos (starEach [e2] X.env)).any (·.1) = false := by rfl) :
    PI X (.Tuple elts kk tpos) (.Call (.Name "zip" p) [e, e2] [] pos) (VL.tI X.K (iZipW f g)) := ⟨fun pins s σ H R I ⟨φ, ρ, μ, ds, src, μ', rs, e, k⟩ => by
  unfold iZipW at e
  split at e
  · rename_i xs μ1 e1
    split at e
    · rename_i ys μ2 e2
      cases e
      have ea : aCons f (aCons g aNil) ρ μ = some ([.d (.list xs), .d (.tuple ys)], μ') := by simp only [aCons, aNil, e1, e2]; rfl
      refine (pi_zipW hg hm (aj_cons he (aj_cons he2 aj_nil hs2) hs) hs hpl).run pins s σ H R I ⟨φ, ρ, μ, _, _, rs, ea, fun φ1 vs H1 g1 c1 r1 => ?_⟩
      obtain ⟨u, v, rfl, q2, ⟨b, vs, q3, h2, s2⟩⟩ := rvs2 r1
      obtain ⟨a, us, q1, _, h1, s1⟩ := id q2
      subst q1 q3
      refine ⟨min xs.length ys.length, a, b, us, vs, rfl, SqL.of h1, h2, k φ1 _ H1 g1 c1 fun φ' H' μ2 g c' _ i => ?_⟩
      have h2' := g.sqT h2
      have s2' := DaAll.step g _ _ s2
      obtain ⟨a', us', q4, _, h1', s1'⟩ := Da.step g (.list xs) _ q2
      cases q4
      have l1 := s1'.len
      have l2 := s2'.len
      refine ⟨fun d e => ?_, fun hl => ⟨us', vs, SqL.of h1', h2', by omega, by omega, by omega, by rw [zipD_len] at hl; exact hl⟩⟩
      have hlt : i < min xs.length ys.length := by
        have := (List.getElem?_eq_some_iff.mp e).1
        rwa [zipD_len] at this
      obtain ⟨d1, d2, e4, e5, rfl⟩ := zipD_get e
      obtain ⟨z1, f1, f2⟩ := s1'.get e4
      obtain ⟨z2, f3, f4⟩ := s2'.get e5
      refine ⟨⟨us', vs, z1, z2, SqL.of h1', h2', f1, f3, hlt⟩, fun x H'' hy => ?_⟩
      obtain ⟨T, x1, x2, rfl, hT, rfl, q1, q2⟩ := hy
      have w1 := q1 us' (SqL.of h1')
      have w2 := q2 vs h2'
      rw [f1] at w1; cases w1
      rw [f3] at w2; cases w2
      exact ⟨Grow.laid hT, c'.laid hT, pair_da hT f2 f4⟩
    · exact (ij_zipM hm he he2 hg hs hs2 hpl).run pins s σ H R I ⟨φ, ρ, μ, ds, src, μ', rs, e, k⟩
  · exact (ij_zipM hm he he2 hg hs hs2 hpl).run pins s σ H R I ⟨φ, ρ, μ, ds, src, μ', rs, e, k⟩⟩
end VY
end
section
set_option Elab.async false
set_option linter.all false
set_option maxRecDepth 100000
set_option maxHeartbeats 2000000
/-! a tuple times 1 is itself -/
namespace VY
open PySem PySem.Spec PyProof.Rows L2 VL
variable [LawTabs]
theorem tuple_mul1 (l : Addr) (items : Array Value) (n : Nat) (dd : Option Addr) (sl : Array (Option Value)) (u : Tok) :
    Meets (Builtin.«tuple.__mul__» ⟨[.ref l, .int 1 u], []⟩) (fun _ R s => s.heap.get? l = some { cls := .type "tuple", dict := dd, data := .seq items n, slots := sl } ∧ R (.ok (.ret (Value.ref l))) s) :=
  .of_wp fun prog w A R s h => by
    obtain ⟨hp, g, d, tk, os⟩ := s
    obtain ⟨hl, h⟩ := h
    have f1 := AutoSeq1.idx_int
    wp_walk using wpAny_loadPart' hl
    exact ⟨_, rfl, h⟩
def rRep1 (K : PySem.W.Frag) : R2 := fun x y H Q => ∃ l xs, x = .ref l ∧ y = .int 1 ∧ SqT K H l xs ∧ Q (.ref l) H
theorem op_rep1 {X : Cx} : OpR X (binaryOp .Mult) (rRep1 X.K) := fun pins s σ H x y v u Q I rx ry ⟨l, xs, ex, ey, hT, q⟩ => by
  subst ex ey; cases rx; obtain ⟨t, rfl⟩ := ry
  obtain ⟨its, r, ⟨⟨cls, dd, data, sl⟩, ho, hc, n, hd⟩, hs⟩ := I.tuple hT
  simp only at hc hd; subst hc hd
  exact wpAny_binaryOp_repeat_ref (T := "tuple") (U := "int") (by decide) ⟨_, ho, rfl⟩ (fun s' => typeIs_int s' 1 t) noFill_tuple_mul F.fills_int_mul F.slot_int_rmul repeat_tuple F.slot_int_index.lookup
    (call_meets F.slot_int_rmul (typeIs_int s 1 t) F.entry_int_rmul (F.args_int_rmul_2 _ _) (int_rmul_tuple 1 t l its.toArray n dd sl) ⟨ho, rfl, ⟨_, ho, rfl⟩, call_meets F.slot_tuple_mul ⟨_, ho, rfl⟩ F.entry_tuple_mul (F.args_tuple_mul_2 _ _)
      (tuple_mul1 l its.toArray n dd sl t) ⟨ho, ⟨.ref l, H, I, rfl, q⟩⟩⟩)
@[simp] def oRepW (μ : Mu) (x y : Vw) : Option Vw := match x, y with
  | .d (.tuple ds), .d (.int k) => bif decide (k = 1) then some (.d (.tuple ds)) else oRepB μ (.d (.tuple ds)) (.d (.int k))
  | x, y => oRep μ x y
theorem oRepW_ok {K : PySem.W.Frag} : O2 K (fun x y H Q => rRep1 K x y H Q ∨ (rRepB K x y H Q ∨ (rRepT K x y H Q ∨ rRep x y H Q))) oRepW := by
  intro φ H μ x y w u v Q c rx ry e k
  unfold oRepW at e
  split at e
  · rename_i ds i
    by_cases hb : i = 1
    · subst hb
      rw [decide_eq_true rfl] at e
      cases e
      obtain ⟨a, xs, rfl, h1, h2⟩ := id rx
      cases ry
      exact .inl ⟨a, xs, rfl, rfl, h1, post_here k c rx⟩
    · rw [decide_eq_false hb] at e
      exact .inr (.inl (oRepB_ok φ H μ _ _ w u v Q c rx ry e k))
  · exact .inr (.inr (oRep_ok φ H μ _ _ w u v Q c rx ry e k))
theorem yj_repW {X : Cx} {W : WX} {a b : Expr} {pos : Pos} {f g : EX} (ha : PE X a (tX X.K W f)) (hb : PE X b (tX X.K W g)) : PE X (.BinOp a .Mult b pos) (tX X.K W (xB2 oRepW f g)) := yj_op (OpR.or op_rep1 (OpR.or op_repB (OpR.or op_repT op_rep))) oRepW_ok ha hb
end VY
end
section
set_option Elab.async false
set_option linter.all false
set_option maxRecDepth 100000
set_option maxHeartbeats 2000000
/-! << | & of ints; x is True, x is False of a bool -/
namespace VY
open PySem PySem.Spec PyProof.Rows L2 VL
variable [LawTabs]
abbrev oShl := iiO (fun i j => decide (0 ≤ j ∧ j ≤ 1000000 ∧ i.natAbs < 2 ^ 64)) fun i j => .int (i * 2 ^ j.toNat)
abbrev oBand := iiO (fun _ _ => true) fun i j => .int (PySem.Builtin.bitAnd i j)
abbrev oBor := iiO (fun _ _ => true) fun i j => .int (PySem.Builtin.bitOr i j)
theorem yj_shl {X : Cx} {W : WX} {a b : Expr} {pos : Pos} {f g : EX} (ha : PE X a (tX X.K W f)) (hb : PE X b (tX X.K W g)) : PE X (.BinOp a .LShift b pos) (tX X.K W (xB2 oShl f g)) := yj_op op_shl (iiO_ok (fun i j h => show 0 ≤ j ∧ j ≤ 1000000 ∧ i.natAbs < 2 ^ 64 from of_decide_eq_true h) fun _ _ _ _ => rfl) ha hb
theorem yj_band {X : Cx} {W : WX} {a b : Expr} {pos : Pos} {f g : EX} (ha : PE X a (tX X.K W f)) (hb : PE X b (tX X.K W g)) : PE X (.BinOp a .BitAnd b pos) (tX X.K W (xB2 oBand f g)) := yj_op op_and (iiO_ok0 fun _ _ _ _ => rfl) ha hb
theorem yj_bor {X : Cx} {W : WX} {a b : Expr} {pos : Pos} {f g : EX} (ha : PE X a (tX X.K W f)) (hb : PE X b (tX X.K W g)) : PE X (.BinOp a .BitOr b pos) (tX X.K W (xB2 oBor f g)) := yj_op op_or (iiO_ok0 fun _ _ _ _ => rfl) ha hb
/-! ### is of two bools -/
def rIsB (neg : Bool) : R2 := fun x y H Q => ∃ b c, x = .bl b ∧ y = .bl c ∧ Q (.bl (xor neg (b == c))) H
theorem op_isB {X : Cx} : OpR X (compareOp .Is) (rIsB false) := by
  intro pins s σ H x y v u Q I rx ry h
  obtain ⟨b, c, rfl, rfl, q⟩ := h
  cases rx; cases ry
  refine wpAny_is_plain rfl (fin_bl I q ?_)
  cases b <;> cases c <;> rfl
@[simp] def oIsB (μ : Mu) (x y : Vw) : Option Vw := match x, y with
  | .d (.bool b), .d (.bool c) => some (.d (.bool (b == c)))
  | _, _ => none
theorem oIsB_ok {K : PySem.W.Frag} : O2 K (rIsB false) oIsB := by
  intro φ H μ x y w u v Q c rx ry e k
  unfold oIsB at e
  split at e
  · rename_i a b
    cases e
    refine ⟨a, b, rx, ry, ?_⟩
    rw [Bool.false_xor]
    exact post_here k c rfl
  · cases e
end VY
end
section
set_option Elab.async false
set_option linter.all false
set_option maxRecDepth 100000
set_option maxHeartbeats 2000000
/-! zip of two tuples and a list; tuple(range(n)) -/
namespace VY
open PySem PySem.Spec PyProof.Rows L2 VL
variable [LawTabs]
def Itz3L (K : PySem.W.Frag) (n : Nat) (a b c : Addr) : It :=
  ⟨fun i H => ∃ (xs ys zs : List V) (x y z : V), SqT K H a xs ∧ SqT K H b ys ∧ SqL K H c zs ∧ xs[i]? = some x ∧ ys[i]? = some y ∧ zs[i]? = some z ∧ i < n,
    fun i H v H' => ∃ T x y z, v = .ref T ∧ H T = none ∧ H' = upd H T (.tup [x, y, z]) ∧ (∀ l, SqT K H a l → l[i]? = some x) ∧ (∀ l, SqT K H b l → l[i]? = some y) ∧ ∀ l, SqL K H c l → l[i]? = some z,
    fun i H => ∃ xs ys zs : List V, SqT K H a xs ∧ SqT K H b ys ∧ SqL K H c zs ∧ n ≤ xs.length ∧ n ≤ ys.length ∧ n ≤ zs.length ∧ (n = xs.length ∨ n = ys.length ∨ n = zs.length) ∧ n ≤ i⟩
theorem turn_zip3L {P : Program} {w : World} {K : PySem.W.Frag} {elts : List Expr} {kk : Nat} {tpos : Pos} {n : Nat} {a b c z TI TO i1 i2 i3 : Addr} (D : ZipSep3 z TI TO i1 i2 i3 [i1, a] [i2, b] [i3, c]) :
    Turn P w K (.Tuple elts kk tpos) (Itz3L K n a b c) [z, TI, TO, i1, i2, i3] z (fun i h => i ≤ n ∧ IsZip h z TI TO .none ∧ IsTupOf3 h TI (.ref i1) (.ref i2) (.ref i3) ∧ (∃ x y u, IsTupOf3 h TO x y u) ∧ h.IsTupleIter i1 a i ∧ h.IsTupleIter i2 b i ∧ h.IsListIter i3 c i) where
  mem := by simp
  obj := fun i h st q hq => by
    obtain ⟨_, hz, hTI, ⟨x, y, u, hTO⟩, ⟨o1, e1, _, d1⟩, ⟨o2, e2, _, d2⟩, ⟨o3, e3, _, d3⟩⟩ := st
    simp only [List.mem_cons, List.not_mem_nil, or_false] at hq
    rcases hq with rfl | rfl | rfl | rfl | rfl | rfl
    · exact ⟨_, hz, fun v q => nomatch q⟩
    · exact ⟨_, hTI, fun v q => nomatch q⟩
    · exact ⟨_, hTO, fun v q => nomatch q⟩
    · exact ⟨o1, e1, fun v q => by rw [d1] at q; cases q⟩
    · exact ⟨o2, e2, fun v q => by rw [d2] at q; cases q⟩
    · exact ⟨o3, e3, fun v q => by rw [d3] at q; cases q⟩
  keep := fun i h h' st k => by
    obtain ⟨hin, hz, hTI, ⟨x, y, u, hTO⟩, h1, h2, h3⟩ := st
    exact ⟨hin, k z (by simp) _ hz, k TI (by simp) _ hTI, ⟨x, y, u, k TO (by simp) _ hTO⟩, h1.at fun o q => k i1 (by simp) o q, h2.at fun o q => k i2 (by simp) o q, h3.at fun o q => k i3 (by simp) o q⟩
  item := by
    intro X hP hw hK hc i pins s σ H E I hf st hg
    subst hP hw hK
    obtain ⟨hin, hz, hTI, ⟨x0, y0, u0, hTO⟩, h1, h2, h3⟩ := st
    obtain ⟨xs, ys, zs, x, y, v, hqx, hqy, hqz, hx, hy, hv, hlt⟩ := hg
    obtain ⟨its, rv, p, _⟩ := I.tuple hqx
    obtain ⟨its2, rv2, p2, _⟩ := I.tuple hqy
    obtain ⟨its3, rv3, p3, _⟩ := I.list hqz
    obtain ⟨u1, hu1, ru1⟩ := rv.get hx
    obtain ⟨u2, hu2, ru2⟩ := rv2.get hy
    obtain ⟨u3, hu3, ru3⟩ := rv3.get hv
    have hzl : z < s.heap.objs.size := Heap.lt_size hz
    have hh : X.A.in1.handled = none := I.ok.hd hc
    have ne3 : c ≠ i3 := by obtain ⟨_, q, qc, _⟩ := id h3; exact lst_ne p3.isList q qc
    have ne : ∀ {t it : Addr} {its : Array Value} {j : Nat}, IsTup s.heap t its → s.heap.IsTupleIter it t j → t ≠ it := fun p ⟨_, q, qc, _⟩ => tup_ne p q qc (by decide)
    have lt : ∀ {l : List Value} {u : Value}, l[i]? = some u → i < l.toArray.size := fun h => by
      have := (List.getElem?_eq_some_iff.mp h).1
      simpa using this
    refine wpAny_pyNext_zipD3_item D (Draws.tuple hh i1 a (ne p h1) its.toArray) (Draws.tuple hh i2 b (ne p2 h2) its2.toArray) (Draws.list hh i3 c ne3 its3.toArray) hz hTI hTO ⟨h1, show s.heap.IsTuple a its.toArray from p⟩ ⟨h2, show s.heap.IsTuple b its2.toArray from p2⟩ ⟨h3, p3.isList⟩ (lt hu1) (lt hu2) (lt hu3) fun y1 y2 y3 h' tk e1 e2 e3 z' TO' h1' h2' h3' hT hsz hk => ?_
    have same : ∀ {l : List Value} {u y : Value}, l.toArray[i]? = some y → l[i]? = some u → y = u := fun {l u y} h h2 => by
      have h' : l[i]? = some y := by simpa using h
      rw [h'] at h2; cases h2; rfl
    obtain rfl := same e1 hu1
    obtain rfl := same e2 hu2
    obtain rfl := same e3 hu3
    refine ⟨_, rfl, wpAny_letOwnedTupleGo_zip (s := { s with heap := h', toks := tk }) z' fun h'' z'' sb => ?_⟩
    have hT2 : h''.get? s.heap.objs.size = some { cls := .type "tuple", data := .seq #[y1, y2, y3] } := (sb.2 _ (Nat.ne_of_gt hzl)).trans hT
    have new : ObjOk X.prog X.w (upd H s.heap.objs.size (.tup [x, y, v])) h'' s.heap.objs.size (.tup [x, y, v]) :=
      ⟨by show 3 ≤ sizeLine; decide, [y1, y2, y3], .cons ru1 (.cons ru2 (.cons ru3 .nil)), ⟨_, hT2, rfl, _, rfl⟩⟩
    have I1 : Inv X pins σ (upd H s.heap.objs.size (.tup [x, y, v])) { s with heap := h'', toks := tk } :=
      I.turnedNew (t' := tk) (ch := [z, TI, TO, i1, i2, i3]) (fun q o hb e => (sb.2 q (fun q' => hb (by simp [q']))).trans (hk q o (fun q' => hb (by simp [q'])) (fun q' => hb (by simp [q'])) (fun q' => hb (by simp [q'])) (fun q' => hb (by simp [q'])) (fun q' => hb (by simp [q'])) e)) hf (Nat.le_refl _) new
    refine ⟨.ref s.heap.objs.size, _, I1, rfl, ⟨_, x, y, v, rfl, I.hok.fresh (Nat.le_refl _), rfl, fun l hl => by rw [I.tuple_inj hl hqx]; exact hx, fun l hl => by rw [I.tuple_inj hl hqy]; exact hy, fun l hl => by rw [I.list_inj hl hqz]; exact hv⟩, ⟨hlt, z'', ?_, ⟨y1, y2, y3, ?_⟩, ?_, ?_, ?_⟩, fun q hq => ?_⟩
    · exact (sb.2 _ D.TIz).trans (hk _ _ D.TIz D.TITO D.TIi1 D.TIi2 D.TIi3 hTI)
    · exact (sb.2 _ D.TOz).trans TO'
    · exact h1'.1.at fun o q => (sb.2 _ (Ne.symm D.zi1)).trans q
    · exact h2'.1.at fun o q => (sb.2 _ (Ne.symm D.zi2)).trans q
    · exact h3'.1.at fun o q => (sb.2 _ (Ne.symm D.zi3)).trans q
    · have hqs : q < s.heap.objs.size := by
        have hq' := hq
        simp only [List.mem_cons, List.not_mem_nil, or_false] at hq'
        rcases hq' with r | r | r | r | r | r
        · rw [r]; exact hzl
        · rw [r]; exact Heap.lt_size hTI
        · rw [r]; exact Heap.lt_size hTO
        · rw [r]; obtain ⟨_, e, _⟩ := h1; exact Heap.lt_size e
        · rw [r]; obtain ⟨_, e, _⟩ := h2; exact Heap.lt_size e
        · rw [r]; obtain ⟨_, e, _⟩ := h3; exact Heap.lt_size e
      rw [upd_ne (Nat.ne_of_lt hqs)]
      exact (hf q hq).1
  done := by
    intro X hP hw hK hc i pins s σ H E I hf st hg
    subst hP hw hK
    obtain ⟨hin, hz, hTI, ⟨x0, y0, u0, hTO⟩, h1, h2, h3⟩ := st
    obtain ⟨xs, ys, zs, hqx, hqy, hqz, l1, l2, l3, hend, hni⟩ := hg
    obtain ⟨its, rv, p, _⟩ := I.tuple hqx
    obtain ⟨its2, rv2, p2, _⟩ := I.tuple hqy
    obtain ⟨its3, rv3, p3, _⟩ := I.list hqz
    have hh : X.A.in1.handled = none := I.ok.hd hc
    have ne3 : c ≠ i3 := by obtain ⟨_, q, qc, _⟩ := id h3; exact lst_ne p3.isList q qc
    have ne : ∀ {t it : Addr} {its : Array Value} {j : Nat}, IsTup s.heap t its → s.heap.IsTupleIter it t j → t ≠ it := fun p ⟨_, q, qc, _⟩ => tup_ne p q qc (by decide)
    have r1 := rv.length
    have r2 := rv2.length
    have r3 := rv3.length
    refine wpAny_pyNext_zipD3_end D (Draws.tuple hh i1 a (ne p h1) its.toArray) (Draws.tuple hh i2 b (ne p2 h2) its2.toArray) (Draws.list hh i3 c ne3 its3.toArray) hz hTI hTO ⟨h1, show s.heap.IsTuple a its.toArray from p⟩ ⟨h2, show s.heap.IsTuple b its2.toArray from p2⟩ ⟨h3, p3.isList⟩ (by simp; omega) (by simp; omega) (by simp; omega) (by simp; omega) fun h' tk hk => ?_
    exact ⟨rfl, I.turnedL (t' := tk) (ch := [z, TI, TO, i1, i2, i3]) (fun q o hb e => hk q o (fun q' => hb (by simp [q'])) (fun q' => hb (by simp [q'])) (fun q' => hb (by simp [q'])) (fun q' => hb (by simp [q'])) (fun q' => hb (by simp [q'])) e) hf⟩
  self := fun A i s Q E st h => wpAny_pyIter_zip st.2.1 h
def iZip3LA (K : PySem.W.Frag) (ta : TA) : TI := fun σ H R => ta σ H fun vs H1 => ∃ n a b c xs ys zs, vs = [.ref a, .ref b, .ref c] ∧ SqT K H1 a xs ∧ SqT K H1 b ys ∧ SqL K H1 c zs ∧ R (Itz3L K n a b c) H1
theorem pi_zip3L {X : Cx} {e e2 e3 : Expr} {ta : TA} {p pos tpos : Pos} {elts : List Expr} {kk : Nat} (hg : Gl X "zip") (hm : X.mg "zip" = none) (ha : PA X [e, e2, e3] ta)
    (hs : starEach [e, e2, e3] X.env = (false, eval e X.env) :: starEach [e2, e3] X.env := by rfl) (hpl : (backTo pos (starEach [e2, e3] X.env)).any (·.1) = false := by rfl) :
    PI X (.Tuple elts kk tpos) (.Call (.Name "zip" p) [e, e2, e3] [] pos) (iZip3LA X.K ta) := by
  refine ⟨fun pins s σ H R I h => ?_⟩
  refine Call_ (ld_blt I hg hm boot_zip (PyProof.Rows.callWith_type1 (thn (ha.run pos pins s σ H _ I h) fun us s1 ⟨vs, H1, I1, r1, q1⟩ => ?_) hs hpl))
  obtain ⟨n, a, b, c, xs, ys, zs, ex, hx, hy, hz, q⟩ := q1
  subst ex
  obtain ⟨u1, u2, u3, rfl, ra, rb, rc⟩ : ∃ u1 u2 u3, us = [u1, u2, u3] ∧ RelV (.ref a) u1 ∧ RelV (.ref b) u2 ∧ RelV (.ref c) u3 := by
    cases r1 with
    | cons r rr =>
      cases rr with
      | cons r2 rr2 =>
        cases rr2 with
        | cons r3 rr3 =>
          cases rr3
          exact ⟨_, _, _, rfl, r, r2, r3⟩
  obtain rfl : u1 = .ref a := ra
  obtain rfl : u2 = .ref b := rb
  obtain rfl : u3 = .ref c := rc
  obtain ⟨i1, _, p1, _⟩ := I1.tuple hx
  obtain ⟨i2, _, p2, _⟩ := I1.tuple hy
  obtain ⟨i3, _, p3, _⟩ := I1.list hz
  have lt : ∀ {t : Addr} {its : Array Value}, IsTup s1.heap t its → t < s1.heap.objs.size := fun ⟨_, e, _⟩ => Heap.lt_size e
  have lt3 : c < s1.heap.objs.size := by obtain ⟨_, e, _⟩ := p3.isList.typeIs; exact Heap.lt_size e
  refine zip_begins3 (begins_tuple a i1.toArray) (begins_tuple b i2.toArray) (begins_list c i3.toArray) (show s1.heap.IsTuple a i1.toArray from p1) (show s1.heap.IsTuple b i2.toArray from p2) p3.isList fun h' hzp hTI hTO g1 g2 g3 _ hk => wpAny_pyIter_zip hzp ?_
  refine ⟨s1.heap.objs.size + 5, [s1.heap.objs.size + 5, s1.heap.objs.size + 3, s1.heap.objs.size + 4, s1.heap.objs.size, s1.heap.objs.size + 1, s1.heap.objs.size + 2], _, _, H1, rfl, I1.kept (t' := s1.toks) hk,
    turn_zip3L (zip_sep3 (fp1 := [a]) (fp2 := [b]) (fp3 := [c]) (by simpa using lt p1) (by simpa using lt p2) (by simpa using lt3)), ⟨Nat.zero_le _, hzp, hTI, ⟨_, _, _, hTO⟩, ⟨_, g1, rfl, rfl⟩, ⟨_, g2, rfl, rfl⟩, ⟨_, g3, rfl, rfl⟩⟩, fun q hq => ?_, q⟩
  have hle : s1.heap.objs.size ≤ q := by
    simp only [List.mem_cons, List.not_mem_nil, or_false] at hq
    rcases hq with r | r | r | r | r | r <;> rw [r] <;> first | exact Nat.le_refl _ | exact Nat.le_add_right _ _
  exact I1.fpOk hle (I1.hok.fresh hle)
def iZip3L (f g h : EF) (ρ : Rho) (μ : Mu) : Option (List PyData × Option Nat × Mu) := match f ρ μ with
  | some (.d (.tuple xs), μ1) => (match g ρ μ1 with
    | some (.d (.tuple ys), μ2) => (match h ρ μ2 with
      | some (.d (.list zs), μ3) => some (zip3D xs ys zs, none, μ3)
      | _ => VL.iZip3 f g h ρ μ)
    | _ => none)
  | _ => none
theorem ij_zip3L {X : Cx} {e e2 e3 : Expr} {elts : List Expr} {kk : Nat} {f g h : EF} {p pos tpos : Pos} (hm : X.mg "zip" = none) (he : PE X e (tE X.K f)) (he2 : PE X e2 (tE X.K g)) (he3 : PE X e3 (tE X.K h)) (hg : Gl X "zip" := by rfl)
    (hs : starEach [e, e2, e3] X.env = (false, eval e X.env) :: starEach [e2, e3] X.env := by rfl) (hs2 : starEach [e2, e3] X.env = (false, eval e2 X.env) :: starEach [e3] X.env := by rfl) (hs3 : starEach [e3] X.env = (false, eval e3 X.env) :: starEach [] X.env := by rfl) (hpl : (backTo pos (starEach [e2, e3] X.env)).any (·.1) = false := by rfl) :
    PI X (.Tuple elts kk tpos) (.Call (.Name "zip" p) [e, e2, e3] [] pos) (VL.tI X.K (iZip3L f g h)) :=
  ⟨fun pins s σ H R I ⟨φ, ρ, μ, ds, src, μ', rs, e, k⟩ => by
  unfold iZip3L at e
  split at e
  · rename_i xs μ1 e1
    split at e
    · rename_i ys μ2 e2
      split at e
      · rename_i zs μ3 e3
        cases e
        have ea : aCons f (aCons g (aCons h aNil)) ρ μ = some ([.d (.tuple xs), .d (.tuple ys), .d (.list zs)], μ') := by simp only [aCons, aNil, e1, e2, e3]; rfl
        refine (pi_zip3L hg hm (aj_cons he (aj_cons he2 (aj_cons he3 aj_nil hs3) hs2) hs) hs hpl).run pins s σ H R I ⟨φ, ρ, μ, _, _, rs, ea, fun φ1 vs H1 g1 c1 r1 => ?_⟩
        obtain ⟨u, v, w, rfl, ⟨a, us, q1, h1, s1⟩, ⟨b, vs, q2, h2, s2⟩, q0⟩ := rvs3 r1
        obtain ⟨c, ws, q3, _, h3, s3⟩ := id q0
        subst q1 q2 q3
        refine ⟨min xs.length (min ys.length zs.length), a, b, c, us, vs, ws, rfl, h1, h2, SqL.of h3, k φ1 _ H1 g1 c1 fun φ' H' μ2 g cc _ i => ?_⟩
        have h1' := g.sqT h1
        have h2' := g.sqT h2
        have s1' := DaAll.step g _ _ s1
        have s2' := DaAll.step g _ _ s2
        obtain ⟨c', ws', q4, _, h3', s3'⟩ := Da.step g (.list zs) _ q0
        cases q4
        have l1 := s1.len
        have l2 := s2.len
        have l3 := s3'.len
        refine ⟨fun d e => ?_, fun hl => ⟨us, vs, ws', h1', h2', SqL.of h3', by omega, by omega, by omega, by omega, by rw [zip3D_len] at hl; exact hl⟩⟩
        obtain ⟨d1, d2, d3, e4, e5, e6, rfl, hlt⟩ := zip3D_get e
        obtain ⟨z1, f1, f2⟩ := s1'.get e4
        obtain ⟨z2, f3, f4⟩ := s2'.get e5
        obtain ⟨z3, f5, f6⟩ := s3'.get e6
        refine ⟨⟨us, vs, ws', z1, z2, z3, h1', h2', SqL.of h3', f1, f3, f5, hlt⟩, fun x H'' hy => ?_⟩
        obtain ⟨T, x1, x2, x3, rfl, hT, rfl, q1, q2, q3⟩ := hy
        have w1 := q1 us h1'
        have w2 := q2 vs h2'
        have w3 := q3 ws' (SqL.of h3')
        rw [f1] at w1; cases w1
        rw [f3] at w2; cases w2
        rw [f5] at w3; cases w3
        exact ⟨Grow.laid hT, cc.laid hT, trip_da hT f2 f4 f6⟩
      · exact (ij_zip3 hm he he2 he3 hg hs hs2 hs3 hpl).run pins s σ H R I ⟨φ, ρ, μ, ds, src, μ', rs, e, k⟩
    · cases e
  · cases e⟩
@[simp] def eTupRg (f : EF) (ρ : Rho) (μ : Mu) : Option (Vw × Mu) := match f ρ μ with
  | some (.d (.int n), μ1) => if 0 ≤ n ∧ n ≤ 1000 then some (.d (.tuple (rngD 0 n.toNat)), μ1) else none
  | _ => none
theorem ej_tupRg {X : Cx} {e : Expr} {f : EF} {p p2 pos pos2 : Pos} (hc : X.calm = true) (hm : X.mg "tuple" = none) (hm2 : X.mg "range" = none) (he : PE X e (tE X.K f)) (hg : Gl X "tuple" := by rfl) (hg2 : Gl X "range" := by rfl)
    (na2 : starEach [e] X.env = (false, eval e X.env) :: starEach [] X.env := by rfl) (na : starEach [.Call (.Name "range" p2) [e] [] pos2] X.env = (false, eval (.Call (.Name "range" p2) [e] [] pos2) X.env) :: starEach [] X.env := by rfl) :
    PE X (.Call (.Name "tuple" p) [.Call (.Name "range" p2) [e] [] pos2] [] pos) (tE X.K (eTupRg f)) :=
  PE.to (pe_tupRg hc hg hm (prg_1 hg2 hm2 he na2) na) fun σ H Q ⟨φ, ρ, μ, w, μ', rs, e, k⟩ => by
    unfold eTupRg at e
    split at e
    · rename_i n μ1 e1
      split at e
      · rename_i hn
        cases e
        refine ⟨φ, ρ, μ, _, _, rs, e1, fun φ1 v H1 g1 c1 r1 => ?_⟩
        cases r1
        exact ⟨n, rfl, .of_le (by omega) (by omega) (by omega) (by omega), fun q hq => new_tup c1 (rgV_da n) (fun φ4 v4 H4 g4 c4 r4 => k φ4 v4 H4 (g1.trans g4) c4 r4) q hq⟩
      · cases e
    · cases e
end VY
end
section
set_option Elab.async false
set_option linter.all false
set_option maxRecDepth 100000
/-! the Hook over a list of places that is written out -/
namespace VY
open PySem PySem.Spec PyProof.Rows L2 VL
variable [LawTabs]
theorem saysL_of {as : List Addr} {fa : List He.Fa} {fn : List He.DefD} {tf : List He.Defn} {ex : PySem.W.Frag → Bool} {w : World} {h : Heap}
    (e1 : He.obsT fa fn [] (He.frT h.get? as) = He.valT fn [] w) (e2 : (ex (He.frT h.get? as) && He.tabsB h.get? tf (He.frT h.get? as)) = true) : He.SaysX fa fn [] tf ex w h (He.frT h.get? as) := by
  obtain ⟨h1, h2⟩ := He.ba e2
  have h3 := fun p hp => He.ba (List.all_eq_true.mp h2 p hp)
  have h4 : ∀ p ∈ tf, ∃ o, h.get? (He.cT (He.frT h.get? as) p).2 = some o ∧ He.emptyTab o = true := fun p hp => by
    have z := (h3 p hp).2
    split at z
    · exact ⟨_, by assumption, z⟩
    · cases z
  refine ⟨e1, h1, fun p hp => (h3 p hp).1, fun p hp => ?_, fun p hp => ?_⟩
  · obtain ⟨o, q, z⟩ := h4 p hp
    exact He.frT_none q z
  · obtain ⟨o, q, z⟩ := h4 p hp
    rw [q, He.emptyTab_eq z]
def obsL (as : List Addr) (fa : List He.Fa) (fn : List He.DefD) (tf : List He.Defn) (ex : PySem.W.Frag → Bool) (fn2 : List He5.DefA) (g : Addr → Option Obj) : He.AlX × He.AlD := ((He.obsT fa fn [] (He.frT g as), ex (He.frT g as) && He.tabsB g tf (He.frT g as)), He5.obsA [] fn2 (He.frT g as))
def hookL (as : List Addr) (fa : List He.Fa) (fn : List He.DefD) (tf : List He.Defn) (ex : PySem.W.Frag → Bool) (fn2 : List He5.DefA) : PySem.W.Hook where
  α := He.AlX × He.AlD
  obs := fun s => obsL as fa fn tf ex fn2 s.heap.get?
  val := fun w => (He.valX fn [] w, He5.valA fn2)
  says := fun w h => ∃ K : PySem.W.Frag, K.In h ∧ He.SaysX fa fn [] tf ex w h K ∧ He5.SaysA [] fn2 K
  of := fun _ _ e => ⟨_, He.frT_in, saysL_of (congrArg (fun z : He.AlX × He.AlD => z.1.1) e) (congrArg (fun z : He.AlX × He.AlD => z.1.2) e), congrArg (fun z : He.AlX × He.AlD => z.2) e⟩
  keeps := fun _ _ _ ⟨K, hK, c, c2⟩ k => ⟨K, PySem.W.Frag.In.keeps hK k, ⟨c.t, c.more, c.hd, c.out, fun p hp => k _ _ (c.empty p hp)⟩, c2⟩
theorem obsL_eq {as : List Addr} {fa : List He.Fa} {fn : List He.DefD} {tf : List He.Defn} {ex : PySem.W.Frag → Bool} {fn2 : List He5.DefA} {g : Addr → Option Obj} {s : Shared} (h : ∀ a, g a = s.heap.get? a) : obsL as fa fn tf ex fn2 g = (hookL as fa fn tf ex fn2).obs s := by
  have e : g = s.heap.get? := funext h
  rw [e] <;> rfl
end VY
end
section
set_option Elab.async false
set_option linter.all false
set_option maxRecDepth 100000
set_option maxHeartbeats 2000000
/-! two dicts that are only written, over a list of one row; range downward -/
namespace VY
open PySem PySem.Spec PyProof.Rows L2 VL
variable [LawTabs]
section
variable {X : Cx} {x : Str} {pos pos' p : Pos} {e : Expr} {te : TE}
theorem av (i : Nat) (hN : X.N[i]? = some x := by rfl) (hv : Vis X.env.scope x := by first | exact Or.inl rfl | exact Or.inr (Or.inl rfl) | exact Or.inr (Or.inr rfl)) (hd : (x == ("__debug__" : Str)) = false := by decide)
    (hcd : (x == ("__classdict__" : Str)) = false := by decide) : PE X (.Name x pos) (tVar i) := pe_var hN hv hd hcd
theorem as_ (i : Nat) (hN : X.N.Nodup) (he : PE X e te) (hi : X.N[i]? = some x := by rfl) (hx : Loc X.env.scope x := by first | exact Or.inl rfl | exact Or.inr rfl) (hs : swapsWith e (some (.Name x pos')) pos.line X.env = pure false := by rfl)
    (hf : X.fn x = true ∨ X.env.scope.names.lookup x = some .local := by first | exact .inl rfl | exact .inr rfl) : PS X (.Assign [.Name x pos'] e pos) (tAsg te (gName i)) := ps_set hN hi hx he hs hf
theorem ag (i : Nat) (hN : X.N.Nodup) (hi : X.N[i]? = some x := by rfl) (hx : Loc X.env.scope x := by first | exact Or.inl rfl | exact Or.inr rfl)
    (hf : X.fn x = true ∨ X.env.scope.names.lookup x = some .local := by first | exact .inl rfl | exact .inr rfl) : PG X (.Name x pos) (gName i) := pg_name hN hi hx hf
end
theorem pss_no {X : Cx} {sts : List Stmt} : PSs X sts (fun _ _ _ => False) := ⟨fun _ _ _ _ _ _ h => h.elim⟩
/-- lasts = {}; firsts = {}; found = []; for row in rows: lasts[row[3]] = row; firsts.setdefault(row[2], row); if row[0] > rows[0][0]: ..; return found -/
def tAsk (K : PySem.W.Frag) : TS := tSeq (tAsg tDNewK (gName 1)) (tSeq (tAsg tDNewK (gName 2)) (tSeq (tAsg (tLst tNil) (gName 3)) (tSeq (tFor (iList K (tVar 0)) (gName 4)
  (tSeq (sDPut (tVar 1) (tOp (rIx K) (tVar 4) (tC (.int 3))) (tVar 4)) (tSeq (tDrop (tDSetd (tVar 2) (tOp (rIx K) (tVar 4) (tC (.int 2))) (tVar 4)))
    (tIfS (tTest (tOp (rI0 fun i j => .bl (decide (j < i))) (tOp (rIx K) (tVar 4) (tC (.int 0))) (tOp (rIx K) (tOp (rIx K) (tVar 0) (tC (.int 0))) (tC (.int 0))))) (fun _ _ _ => False) tNext))))
  (tRet (tVar 3)))))
/-- the mirror: one row alone -/
def yAsk : SX := fun ρ μ => match ρ with
  | [some (.d (.list [.tuple (.int a :: b :: .int c :: .int d :: r)])), none, none, none, none, none] => some (.ok (.rt (.d (.list []))) μ)
  | _ => none
theorem sqT_ne {K : PySem.W.Frag} {H : Hp} {t d : Addr} {xs : List V} {o : HO} (h : SqT K H t xs) (hd : ∀ u, H d = some u → (∃ ks, u = .dK ks)) : SqT K (upd H d o) t xs := by
  rcases h with (h | ⟨q, h⟩) | h
  · refine .inl (.inl ?_)
    rw [upd_ne (fun e => ?_)]
    · exact h
    · subst e; obtain ⟨ks, z⟩ := hd _ h; cases z
  · refine .inl (.inr ⟨q, ?_⟩)
    rw [upd_ne (fun e => ?_)]
    · exact h
    · subst e; obtain ⟨ks, z⟩ := hd _ h; cases z
  · exact .inr h
theorem sqL_ne {K : PySem.W.Frag} {H : Hp} {t d : Addr} {xs : List V} {o : HO} (h : SqL K H t xs) (hd : ∀ u, H d = some u → (∃ ks, u = .dK ks)) : SqL K (upd H d o) t xs := by
  rcases h with (h | ⟨q, h⟩) | h
  · refine .inl (.inl ?_)
    rw [upd_ne (fun e => ?_)]
    · exact h
    · subst e; obtain ⟨ks, z⟩ := hd _ h; cases z
  · refine .inl (.inr ⟨q, ?_⟩)
    rw [upd_ne (fun e => ?_)]
    · exact h
    · subst e; obtain ⟨ks, z⟩ := hd _ h; cases z
  · exact .inr h
theorem at4_0 {a b c d : V} {r : List V} : atI (a :: b :: c :: d :: r) 0 = some a := by
  unfold atI ixN
  rw [if_pos (by omega), if_pos (by simp; omega)]
  rfl
theorem at4_2 {a b c d : V} {r : List V} : atI (a :: b :: c :: d :: r) 2 = some c := by
  unfold atI ixN
  rw [if_pos (by omega), if_pos (by simp; omega)]
  rfl
theorem at4_3 {a b c d : V} {r : List V} : atI (a :: b :: c :: d :: r) 3 = some d := by
  unfold atI ixN
  rw [if_pos (by omega), if_pos (by simp; omega)]
  rfl
theorem ask_ok {K : PySem.W.Frag} {E : XK} : ∀ D σ H, tXS K (wf E) yAsk D σ H → tAsk K D σ H := fun D σ H ⟨φ, ρ, μ, rs, k⟩ => by
  unfold yAsk at k
  split at k
  · rename_i a b c d r
    obtain ⟨v0, s0, rv⟩ := rs.at_ 0 _ rfl
    obtain ⟨A, xs, rfl, hA, hl, h1⟩ := id rv
    obtain ⟨v1, vs1, rfl, h2, h3⟩ := h1
    have h3 : vs1 = [] := h3
    subst h3
    obtain ⟨T, ys, rfl, hT, w0, ws0, rfl, e0, w1, ws1, rfl, e1, w2, ws2, rfl, e2, w3, ws3, rfl, e3, e4⟩ := id h2
    have e0 : w0 = .int a := e0
    have e2 : w2 = .int c := e2
    have e3 : w3 = .int d := e3
    subst e0 e2 e3
    have hL : SqL K H A [.ref T] := SqL.of hl
    have sl := rs.len
    have sl : σ.length = 6 := sl
    intro p1 hp1
    show ∀ p, _ → _
    intro p2 hp2
    refine ⟨Nat.zero_le _, fun p3 hp3 => ?_⟩
    -- the loop
    have n1 : ∀ u, H p1 = some u → ∃ ks, u = .dK ks := fun u z => by rw [hp1] at z; cases z
    have n2 : ∀ u, (upd H p1 (.dK [])) p2 = some u → ∃ ks, u = .dK ks := fun u z => by rw [hp2] at z; cases z
    have n3 : ∀ u, (upd (upd H p1 (.dK [])) p2 (.dK [])) p3 = some u → ∃ ks, u = .dK ks := fun u z => by rw [hp3] at z; cases z
    have ne12 : p1 ≠ p2 := fun e => by subst e; rw [upd_same] at hp2; cases hp2
    have ne23 : p2 ≠ p3 := fun e => by subst e; rw [upd_same] at hp3; cases hp3
    have ne13 : p1 ≠ p3 := fun e => by subst e; rw [upd_ne ne12, upd_same] at hp3; cases hp3
    generalize hH3 : upd (upd (upd H p1 (.dK [])) p2 (.dK [])) p3 (.lst []) = H3
    have L3 : SqL K H3 A [.ref T] := by rw [← hH3]; exact sqL_ne (sqL_ne (sqL_ne hL n1) n2) n3
    have T3 : SqT K H3 T (.int a :: w1 :: .int c :: .int d :: ws3) := by rw [← hH3]; exact sqT_ne (sqT_ne (sqT_ne hT n1) n2) n3
    have g1 : H3 p1 = some (.dK []) := by rw [← hH3, upd_ne ne13, upd_ne ne12, upd_same]
    have g2 : H3 p2 = some (.dK []) := by rw [← hH3, upd_ne ne23, upd_same]
    let H4 := upd H3 p1 (.dK (putK [] (.inl d) (.ref T)))
    have g2' : H4 p2 = some (.dK []) := by show upd _ _ _ _ = _; rw [upd_ne (Ne.symm ne12)]; exact g2
    let H5 := upd H4 p2 (.dK (putK [] (.inl c) (.ref T)))
    have m1 : ∀ u, H3 p1 = some u → ∃ ks, u = .dK ks := fun u z => by rw [g1] at z; cases z; exact ⟨_, rfl⟩
    have m2 : ∀ u, H4 p2 = some u → ∃ ks, u = .dK ks := fun u z => by rw [g2'] at z; cases z; exact ⟨_, rfl⟩
    have L4 : SqL K H4 A [.ref T] := sqL_ne L3 m1
    have T4 : SqT K H4 T (.int a :: w1 :: .int c :: .int d :: ws3) := sqT_ne T3 m1
    have L5 : SqL K H5 A [.ref T] := sqL_ne L4 m2
    have T5 : SqT K H5 T (.int a :: w1 :: .int c :: .int d :: ws3) := sqT_ne T4 m2
    have H5e : H5 = upd (upd (upd H p1 (.dK (putK [] (.inl d) (.ref T)))) p2 (.dK (putK [] (.inl c) (.ref T)))) p3 (.lst []) := by
      show upd (upd H3 _ _) _ _ = _
      rw [← hH3]
      funext z
      unfold upd
      by_cases z1 : z = p1
      · subst z1; simp [ne12, ne13]
      · by_cases z2 : z = p2
        · subst z2; simp [ne23, z1]
        · simp [z1, z2]
    let S := fun (σ' : L2.St) => σ'.length = 6 ∧ σ'[0]? = some (some (.ref A)) ∧ σ'[1]? = some (some (.ref p1)) ∧ σ'[2]? = some (some (.ref p2)) ∧ σ'[3]? = some (some (.ref p3))
    refine ⟨.ref A, by simp [s0], A, rfl, ⟨_, L3⟩, for_list (xs := [.ref T]) (fun i σ' H' => S σ' ∧ ((i = 0 ∧ H' = H3) ∨ (i = 1 ∧ H' = H5))) ⟨⟨by simp [sl], by simp [s0], by simp [sl], by simp [sl], by simp [sl]⟩, .inl ⟨rfl, rfl⟩⟩ ?_ ?_ ?_⟩
    · rintro i σ' H' _ ⟨_, ⟨_, rfl⟩ | ⟨_, rfl⟩⟩
      · exact L3
      · exact L5
    · rintro i x σ' H' hx ⟨⟨q0, q1, q2, q3, q4⟩, hi⟩
      have hi0 : i = 0 ∧ H' = H3 := by
        rcases hi with hi | ⟨hi, _⟩
        · exact hi
        · subst hi; cases hx
      obtain ⟨rfl, rfl⟩ := hi0
      have hx : V.ref T = x := Option.some.inj hx
      subst hx
      have z4 : (σ'.set 4 (some (.ref T)))[4]? = some (some (.ref T)) := by simp [q0]
      have z1 : (σ'.set 4 (some (.ref T)))[1]? = some (some (.ref p1)) := by simp [q2]
      have z2 : (σ'.set 4 (some (.ref T)))[2]? = some (some (.ref p2)) := by simp [q3]
      have z0 : (σ'.set 4 (some (.ref T)))[0]? = some (some (.ref A)) := by simp [q1]
      have z3 : (σ'.set 4 (some (.ref T)))[3]? = some (some (.ref p3)) := by simp [q4]
      refine ⟨_, z4, _, z1, _, z4, .inr (.inl ⟨T, _, 3, .int d, rfl, rfl, T3, at4_3, ?_⟩)⟩
      refine ⟨p1, H4, rfl, DPut.k (k := .inl d) g1 (by decide), ?_⟩
      refine ⟨_, z2, p2, rfl, .inl ⟨[], .inl g2'⟩, _, z4, .inr (.inl ⟨T, _, 2, .int c, rfl, rfl, T4, at4_2, ?_⟩)⟩
      refine ⟨_, z4, [], .inl c, g2', rfl, by decide, (fun v hv => nomatch hv), fun _ => ?_⟩
      refine ⟨_, z4, .inr (.inl ⟨T, _, 0, .int a, rfl, rfl, T5, at4_0, ?_⟩)⟩
      refine ⟨_, z0, .inl ⟨A, _, 0, .ref T, rfl, rfl, L5, rfl, ?_⟩⟩
      refine .inr (.inl ⟨T, _, 0, .int a, rfl, rfl, T5, at4_0, ?_⟩)
      refine ⟨a, a, rfl, rfl, decide (a < a), rfl, ?_⟩
      rw [decide_eq_false (Int.lt_irrefl a)]
      show S _ ∧ _
      exact ⟨⟨by simp [q0], z0, z1, z2, z3⟩, .inr ⟨rfl, rfl⟩⟩
    · rintro σ' H' ⟨⟨q0, q1, q2, q3, q4⟩, hi⟩
      have hi1 : H' = H5 := by
        rcases hi with ⟨hi, _⟩ | ⟨_, hi⟩
        · cases hi
        · exact hi
      subst hi1
      refine ⟨_, q4, ?_⟩
      have f2 : (upd H p1 (.dK (putK [] (.inl d) (.ref T)))) p2 = none := by
        rw [upd_ne (Ne.symm ne12)]
        rwa [upd_ne (Ne.symm ne12)] at hp2
      have f3 : (upd (upd H p1 (.dK (putK [] (.inl d) (.ref T)))) p2 (.dK (putK [] (.inl c) (.ref T)))) p3 = none := by
        rw [upd_ne (Ne.symm ne23), upd_ne (Ne.symm ne13)]
        rwa [upd_ne (Ne.symm ne23), upd_ne (Ne.symm ne13)] at hp3
      rw [H5e]
      have c0 := rs.c
      have c1 := c0.laid (o := .dK (putK [] (.inl d) (.ref T))) hp1
      have c2 := c1.laid (o := .dK (putK [] (.inl c) (.ref T))) f2
      have c3 := c2.laid (o := .lst []) f3
      exact k φ (.ref p3) _ (((Grow.laid hp1).trans (Grow.laid f2)).trans (Grow.laid f3)) c3 ⟨p3, [], rfl, c2.notin f3, upd_same, rfl⟩
  · exact k.elim
/-! ### range downward -/
def iRgD (f g h : EF) (ρ : Rho) (μ : Mu) : Option (List PyData × Option Nat × Mu) := match f ρ μ with
  | some (.d (.int i), μ1) => (match g ρ μ1 with
    | some (.d (.int j), μ2) => (match h ρ μ2 with
      | some (.d (.int c), μ3) => bif decide (c = -1) && decide (-1000000 ≤ i ∧ i ≤ 1000000 ∧ -1000000 ≤ j ∧ j ≤ 1000000) then some ((List.range (i - j).toNat).map (fun (k : Nat) => PyData.int (i + (k : Int) * -1)), none, μ3) else none
      | _ => none)
    | _ => none)
  | _ => none
theorem ij_rgD {X : Cx} {tg a b c : Expr} {f g h : EF} {p pos : Pos} (hm : X.mg "range" = none) (he : PE X a (tE X.K f)) (he2 : PE X b (tE X.K g)) (he3 : PE X c (tE X.K h)) (hg : Gl X "range" := by rfl)
    (hs : starEach [a, b, c] X.env = (false, eval a X.env) :: starEach [b, c] X.env := by rfl) (hs2 : starEach [b, c] X.env = (false, eval b X.env) :: starEach [c] X.env := by rfl) (hs3 : starEach [c] X.env = (false, eval c X.env) :: starEach [] X.env := by rfl) (hpl : (backTo pos (starEach [b, c] X.env)).any (·.1) = false := by rfl) :
    PI X tg (.Call (.Name "range" p) [a, b, c] [] pos) (VL.tI X.K (iRgD f g h)) :=
  PI.to (pi_range3 hg hm (aj_cons he (aj_cons he2 (aj_cons he3 aj_nil hs3) hs2) hs) hs hpl) fun σ H R ⟨φ, ρ, μ, ds, src, μ', rs, e, k⟩ => by
  unfold iRgD at e
  split at e
  · rename_i i μ1 e1
    split at e
    · rename_i j μ2 e2
      split at e
      · rename_i d μ3 e3
        cases hb : decide (d = -1) && decide (-1000000 ≤ i ∧ i ≤ 1000000 ∧ -1000000 ≤ j ∧ j ≤ 1000000) with
        | false => rw [hb] at e; cases e
        | true =>
          rw [hb] at e; cases e
          obtain ⟨b1, b2⟩ := He.ba hb
          have b1 := of_decide_eq_true b1
          have b2 := of_decide_eq_true b2
          subst b1
          have ea : aCons f (aCons g (aCons h aNil)) ρ μ = some ([.d (.int i), .d (.int j), .d (.int (-1))], μ') := by simp only [aCons, aNil, e1, e2, e3]; rfl
          refine ⟨φ, ρ, μ, _, _, rs, ea, fun φ1 vs H1 g1 c1 r1 => ?_⟩
          obtain ⟨u, v, w, rfl, q1, q2, q3⟩ := rvs3 r1
          have q1 : u = .int i := q1
          have q2 : v = .int j := q2
          have q3 : w = .int (-1) := q3
          subst q1 q2 q3
          refine ⟨i, j, -1, (i - j).toNat, rfl, RgC.neg (by omega) (by omega) (by omega) (by omega), k φ1 _ H1 g1 c1 fun φ' H' μ2 g c' _ z => ?_⟩
          refine ⟨fun d e => ?_, fun hl => by rw [List.length_map, List.length_range] at hl; exact hl⟩
          rw [List.getElem?_map] at e
          obtain ⟨m, e4, e5⟩ := Option.map_eq_some_iff.mp e
          have hz : z < (i - j).toNat := by
            have := (List.getElem?_eq_some_iff.mp e4).1
            rwa [List.length_range] at this
          rw [List.getElem?_range hz] at e4
          cases e4
          subst e5
          refine ⟨hz, fun x H'' hy => ?_⟩
          obtain ⟨rfl, rfl⟩ := hy
          exact ⟨.refl _ _, c', rfl⟩
      · cases e
    · cases e
  · cases e
end VY
end
section
set_option Elab.async false
set_option linter.all false
set_option maxRecDepth 100000
set_option maxHeartbeats 2000000
/-! a list of lists that are changed, kept beside the frame -/
namespace VY
open PySem PySem.Spec PyProof.Rows L2 VL
variable [LawTabs]
abbrev LL := List (List PyData)
abbrev NX := LL → Rho → Mu → RM (LL × Rho)
def NLs (K : PySem.W.Frag) (A : List Addr) (H : Hp) : List Addr → LL → Prop
  | [], nss => nss = []
  | b :: bs, nss => ∃ ds r xs, nss = ds :: r ∧ H b = some (.lst xs) ∧ DaAll K A H ds xs ∧ NLs K A H bs r
structure NS (K : PySem.W.Frag) (sl : Nat) (φ0 : Ph) (H0 : Hp) (p : Addr) (bs : List Addr) (φ : Ph) (σ : L2.St) (H : Hp) (ρ : Rho) (μ : Mu) (nss : LL) : Prop where
  g : Grow φ0 φ H0 H
  hx : ∀ a ∈ p :: bs, H0 a = none
  m1 : ∀ a ∈ p :: bs, a ∈ φ.1
  m2 : ∀ a ∈ p :: bs, a ∉ φ.2
  nd : (p :: bs).Nodup
  rs : RS K φ σ H ρ μ
  s0 : σ[sl]? = some (some (.ref p))
  op : H p = some (.lst (bs.map V.ref))
  ob : NLs K φ.av H bs nss
  len : bs.length ≤ 1000 ∧ ∀ ds ∈ nss, ds.length ≤ 1000
section
variable {K : PySem.W.Frag} {sl : Nat} {φ0 φ φ1 : Ph} {H0 H H1 : Hp} {p : Addr} {bs : List Addr} {σ : L2.St} {ρ : Rho} {μ μ1 : Mu} {nss : LL}
theorem NLs.at_ {A : List Addr} : ∀ {bs : List Addr} {nss : LL}, NLs K A H bs nss → ∀ {i : Nat} {b : Addr}, bs[i]? = some b → ∃ ds xs, nss[i]? = some ds ∧ H b = some (.lst xs) ∧ DaAll K A H ds xs
  | [], _, _, i, b, h => by simp at h
  | c :: bs, _, ⟨ds, r, xs, e, h1, h2, h3⟩, i, b, h => by
    subst e
    cases i with
    | zero => cases h; exact ⟨ds, xs, rfl, h1, h2⟩
    | succ i => exact NLs.at_ h3 (i := i) h
theorem NLs.length {A : List Addr} : ∀ {bs : List Addr} {nss : LL}, NLs K A H bs nss → nss.length = bs.length
  | [], _, h => by rw [show _ = [] from h]; rfl
  | c :: bs, _, ⟨ds, r, xs, e, h1, h2, h3⟩ => by subst e; simp [NLs.length h3]
theorem NLs.step (g1 : Grow φ φ1 H H1) : ∀ {bs : List Addr} {nss : LL}, (∀ b ∈ bs, b ∉ φ.2) → NLs K φ.av H bs nss → NLs K φ1.av H1 bs nss
  | [], _, _, h => h
  | c :: bs, _, hm, ⟨ds, r, xs, e, h1, h2, h3⟩ => ⟨ds, r, xs, e, g1.ext _ _ h1 (fun z => absurd z (hm c (List.mem_cons_self ..))) (fun ps z => by cases z), DaAll.step g1.w _ _ h2, NLs.step g1 (fun b hb => hm b (List.mem_cons_of_mem _ hb)) h3⟩
/-- a write at D, which is none of the lists, or one of them -/
theorem NLs.wr {D : Addr} {o o' : HO} (hD : D ∈ φ.1) (hl : H D = some o) (ho : WrO o) : ∀ {bs : List Addr} {nss : LL}, D ∉ bs → NLs K φ.av H bs nss → NLs K φ.av (upd H D o') bs nss
  | [], _, _, h => h
  | c :: bs, _, hm, ⟨ds, r, xs, e, h1, h2, h3⟩ => ⟨ds, r, xs, e, by rw [upd_ne (fun z => hm (by rw [z]; exact List.mem_cons_self ..))]; exact h1, DaAll.wr (List.mem_append_left _ hD) hl ho _ _ h2, NLs.wr hD hl ho (fun z => hm (List.mem_cons_of_mem _ z)) h3⟩
theorem NLs.put {D : Addr} {xs : List V} {ds : List PyData} (hD : D ∈ φ.1) (hl : ∃ ys, H D = some (.lst ys)) (hq : DaAll K φ.av (upd H D (.lst xs)) ds xs) : ∀ {bs : List Addr} {nss : LL} {i : Nat}, bs.Nodup → bs[i]? = some D → NLs K φ.av H bs nss → NLs K φ.av (upd H D (.lst xs)) bs (nss.set i ds)
  | [], _, i, _, h, _ => by simp at h
  | c :: bs, _, i, nd, h, ⟨ds0, r, xs0, e, h1, h2, h3⟩ => by
    obtain ⟨ys, hy⟩ := hl
    have nd' := List.nodup_cons.mp nd
    subst e
    cases i with
    | zero =>
      cases h
      exact ⟨ds, r, xs, rfl, upd_same, hq, NLs.wr hD hy trivial nd'.1 h3⟩
    | succ i =>
      have hc : c ≠ D := fun z => nd'.1 (by rw [z]; exact List.mem_of_getElem? h)
      exact ⟨ds0, r.set i ds, xs0, rfl, by rw [upd_ne hc]; exact h1, DaAll.wr (List.mem_append_left _ hD) hy trivial _ _ h2, NLs.put hD ⟨ys, hy⟩ hq nd'.2 h h3⟩
theorem NS.step (i : NS K sl φ0 H0 p bs φ σ H ρ μ nss) (g1 : Grow φ φ1 H H1) (c1 : Cells K φ1 H1 μ1) : NS K sl φ0 H0 p bs φ1 σ H1 ρ μ1 nss := by
  have live : ∀ a ∈ p :: bs, H a ≠ none := fun a ha => by
    rcases List.mem_cons.mp ha with e | ha
    · rw [e, i.op]; simp
    · obtain ⟨j, hj⟩ := List.getElem?_of_mem ha
      obtain ⟨ds, xs, _, h, _⟩ := i.ob.at_ hj
      rw [h]; simp
  refine ⟨i.g.trans g1, i.hx, fun a ha => ?_, fun a ha => g1.out2 (live a ha) (i.m2 a ha), i.nd, i.rs.step g1.w c1, i.s0, g1.ext _ _ i.op (fun z => absurd z (i.m2 p (List.mem_cons_self ..))) (fun ps z => by cases z), NLs.step g1 (fun b hb => i.m2 b (List.mem_cons_of_mem _ hb)) i.ob, i.len⟩
  obtain ⟨χ, e, _⟩ := g1.fst
  rw [e]; exact List.mem_append_left _ (i.m1 a ha)
/-- one of the lists is written -/
theorem NS.put (i : NS K sl φ0 H0 p bs φ σ H ρ μ nss) {j : Nat} {b : Addr} {ds : List PyData} {xs : List V} (hj : bs[j]? = some b) (hs : DaAll K φ.av H ds xs) (hl : ds.length ≤ 1000) : NS K sl φ0 H0 p bs φ σ (upd H b (.lst xs)) ρ μ (nss.set j ds) := by
  have hb : b ∈ bs := List.mem_of_getElem? hj
  have hb' : b ∈ p :: bs := List.mem_cons_of_mem _ hb
  obtain ⟨ds0, xs0, _, h, _⟩ := i.ob.at_ hj
  have nd' := List.nodup_cons.mp i.nd
  have hp : p ≠ b := fun z => nd'.1 (by rw [z]; exact hb)
  refine ⟨⟨i.g.fst, i.g.pre, fun a o e hn nt => ?_, fun a z => ?_⟩, i.hx, i.m1, i.m2, i.nd, RS.wr i.rs (i.m1 b hb') (i.m2 b hb') h trivial, i.s0, by rw [upd_ne hp]; exact i.op, NLs.put (i.m1 b hb') ⟨_, h⟩ (DaAll.wr (List.mem_append_left _ (i.m1 b hb')) h trivial _ _ hs) nd'.2 hj i.ob, i.len.1, fun z hz => ?_⟩
  · rw [upd_ne (ne_of_none e (i.hx b hb'))]; exact i.g.ext a o e hn nt
  · by_cases e : a = b
    · rw [e]; exact i.hx b hb'
    · rw [upd_ne e] at z; exact i.g.live a z
  · rcases List.mem_or_eq_of_mem_set hz with hz | hz
    · exact i.len.2 z hz
    · rw [hz]; exact hl
end
def NP (K : PySem.W.Frag) (sl : Nat) (φ0 : Ph) (H0 : Hp) (p : Addr) (φ : Ph) (H : Hp) (E : XK) (D : Ends) : RM (LL × Rho) → Prop :=
  RsP K φ0 H0 E fun r μ' => ∀ φ' σ' H' bs', GrowW φ φ' H H' → NS K sl φ0 H0 p bs' φ' σ' H' r.2 μ' r.1 → D.nx σ' H'
def tNS (K : PySem.W.Frag) (sl : Nat) (E : XK) (g : NX) : TS := fun D σ H => ∃ φ0 H0 p bs φ ρ μ nss, NS K sl φ0 H0 p bs φ σ H ρ μ nss ∧ NP K sl φ0 H0 p φ H E D (g nss ρ μ)
section
variable {K : PySem.W.Frag} {sl : Nat} {φ0 φ φ1 : Ph} {H0 H H1 : Hp} {p : Addr} {bs : List Addr} {σ : L2.St} {ρ : Rho} {μ μ1 : Mu} {nss : LL} {E : XK} {D : Ends}
theorem NP.grow {m : RM (LL × Rho)} (g1 : GrowW φ φ1 H H1) (h : NP K sl φ0 H0 p φ H E D m) : NP K sl φ0 H0 p φ1 H1 E D m := RsP.imp h fun r μ' k φ' σ' H' bs' g i => k φ' σ' H' bs' (g1.trans g) i
/-- a value is reckoned beside the lists -/
theorem vp_ns {Q : VK} {m : RM Vw} {k : Vw → Mu → RM (LL × Rho)} (i : NS K sl φ0 H0 p bs φ σ H ρ μ nss) (h : NP K sl φ0 H0 p φ H E D (bd m k))
    (hQ : ∀ w μ1 φ1 v H1, Grow φ φ1 H H1 → Cells K φ1 H1 μ1 → RV K φ1 H1 w v → NP K sl φ0 H0 p φ1 H1 E D (k w μ1) → Q v H1) : VP K φ H E Q m := by
  cases m with
  | none => exact h.elim
  | some r =>
    cases r with
    | ex e μ1 => exact XP.grow i.g h
    | ok w μ1 => exact fun φ1 v H1 g1 c1 r1 => hQ w μ1 φ1 v H1 g1 c1 r1 (NP.grow g1.w h)
/-- one of the lists is written: what stays -/
theorem GrowW.at_b (i : NS K sl φ0 H0 p bs φ σ H ρ μ nss) {b : Addr} (hb : b ∈ p :: bs) {xs ys : List V} (h : H b = some (.lst xs)) : GrowW φ φ H (upd H b (.lst ys)) := by
  refine ⟨⟨[], by simp, by simp⟩, ⟨[], by simp, by simp⟩, fun a o e hn nt => ?_, fun a z => ?_⟩
  · by_cases ea : a = b
    · subst ea
      rw [h] at e; cases e
      exact absurd rfl (hn (List.mem_append_left _ (i.m1 _ hb)) xs)
    · rw [upd_ne ea]; exact e
  · by_cases ea : a = b
    · subst ea; rw [upd_same] at z; cases z
    · rwa [upd_ne ea] at z
end
section
variable {X : Cx} {sl : Nat} {E : XK} {pos pos' p1 p2 : Pos} {e c ke : Expr} {st : Stmt} {a b rest : List Stmt}
def nNil : NX := fun nss ρ μ => some (.ok (nss, ρ) μ)
def nSeq (g h : NX) : NX := fun nss ρ μ => bd (g nss ρ μ) fun r μ1 => h r.1 r.2 μ1
theorem n_nil : PSs X [] (tNS X.K sl E nNil) := PSs.to pss_nil fun D σ H ⟨φ0, H0, p, bs, φ, ρ, μ, nss, i, k⟩ => k φ σ H bs (Grow.refl _ _).w i
theorem n_cons {g h : NX} (h1 : PS X st (tNS X.K sl E g)) (h2 : PSs X rest (tNS X.K sl E h)) : PSs X (st :: rest) (tNS X.K sl E (nSeq g h)) := PSs.to (pss_cons h1 h2) fun D σ H ⟨φ0, H0, p, bs, φ, ρ, μ, nss, i, k⟩ =>
  ⟨φ0, H0, p, bs, φ, ρ, μ, nss, i, RsP.bd k fun r μ1 _ k1 φ' σ' H' bs' g i' => ⟨φ0, H0, p, bs', φ', r.2, μ1, r.1, i', NP.grow g k1⟩⟩
def nSet (j : Nat) (f : EX) : NX := fun nss ρ μ => bd (f ρ μ) fun w μ1 => some (.ok (nss, ρ.set j (some w)) μ1)
theorem n_set {j : Nat} {x : Str} {f : EX} (hN : X.N.Nodup) (hj : j ≠ sl) (he : PE X e (tX X.K (wf E) f)) (hi : X.N[j]? = some x := by rfl) (hx : Loc X.env.scope x := by first | exact Or.inl rfl | exact Or.inr rfl) (hs : swapsWith e (some (.Name x pos')) pos.line X.env = pure false := by rfl)
    (hf : X.fn x = true ∨ X.env.scope.names.lookup x = some .local := by first | exact .inl rfl | exact .inr rfl) : PS X (.Assign [.Name x pos'] e pos) (tNS X.K sl E (nSet j f)) := PS.to (ps_set hN hi hx he hs hf) fun D σ H ⟨φ0, H0, p, bs, φ, ρ, μ, nss, i, k⟩ => by
  refine ⟨φ, ρ, μ, i.rs, vp_ns i k fun w μ1 φ1 v H1 g1 c1 r1 k1 => ?_⟩
  have i1 := i.step g1 c1
  exact k1 φ1 _ H1 bs (Grow.refl _ _).w ⟨i1.g, i1.hx, i1.m1, i1.m2, i1.nd, i1.rs.put r1, by rw [List.getElem?_set_ne hj]; exact i1.s0, i1.op, i1.ob, i1.len⟩
/-- found[k].append(e) -/
def nApp (fk fe : EX) : NX := fun nss ρ μ => bd (fk ρ μ) fun k μ1 => match k with
  | .d (.int z) => (match ixN nss.length z with
    | some j => bd (fe ρ μ1) fun w μ2 => (match w with
      | .d d => (match nss[j]? with
        | some ds => bif decide (ds.length < 900) then some (.ok (nss.set j (ds ++ [d]), ρ) μ2) else none
        | none => none)
      | _ => none)
    | none => none)
  | _ => none
theorem n_app {x : Str} {fk fe : EX} {apos cpos : Pos} (hk : PE X ke (tX X.K (wf E) fk)) (he : PE X e (tX X.K (wf E) fe)) (hN : X.N[sl]? = some x := by rfl) (hv : Vis X.env.scope x := by first | exact Or.inl rfl | exact Or.inr (Or.inl rfl) | exact Or.inr (Or.inr rfl))
    (hd : (x == ("__debug__" : Str)) = false := by decide) (hcd : (x == ("__classdict__" : Str)) = false := by decide) (hpl : PlainIx ke := by exact fun _ _ => rfl)
    (hbase : attributeBase (.Subscript (.Name x p1) ke p2) "append" X.env (eval (.Subscript (.Name x p1) ke p2) X.env) = eval (.Subscript (.Name x p1) ke p2) X.env := by rfl)
    (hfew : ((backTo cpos (starEach [e] X.env)).all (fun x => !x.1) && (backToKw cpos (keywordEach [] X.env)).all (fun x => x.1.isSome) && decide (([e] : List Expr).length + ([] : List Keyword).length + (if ([] : List Keyword).isEmpty then 0 else 1) < 30)) = true := by rfl)
    (hline : (apos.endLine == cpos.line) = true := by rfl) (hs : starEach [e] X.env = (false, eval e X.env) :: starEach [] X.env := by rfl) (hplain : (backTo cpos (starEach [] X.env)).any (·.1) = false := by rfl)
    (hsw : swapsWith (.Call (.Attribute (.Subscript (.Name x p1) ke p2) "append" apos) [e] [] cpos) none pos.line X.env = pure false := by rfl) : PS X (.Expr (.Call (.Attribute (.Subscript (.Name x p1) ke p2) "append" apos) [e] [] cpos) pos) (tNS X.K sl E (nApp fk fe)) :=
  PS.to (ps_expr (pe_bm PySem.F.plainAttrs_list PySem.F.slot_list_append PySem.F.type_list_append mt_append (pe_ix ix_seq (pe_var hN hv hd hcd) hk hpl) (yaj_cons he yaj_nil hs) hbase hfew hline hs hplain) hsw) fun D σ H ⟨φ0, H0, p, bs, φ, ρ, μ, nss, i, k⟩ => by
  refine ⟨.ref p, i.s0, φ, ρ, μ, i.rs, vp_ns i k fun w μ1 φ1 v H1 g1 c1 r1 k1 => ?_⟩
  have i1 := i.step g1 c1
  split at k1
  · rename_i z
    cases r1
    split at k1
    · rename_i j hj
      have hl := i1.ob.length
      have hj2 : ∃ b, bs[j]? = some b ∧ atI (bs.map V.ref) z = some (.ref b) := by
        unfold atI
        rw [List.length_map, ← hl, hj]
        have hlt : j < bs.length := by
          rw [← hl]
          unfold ixN at hj
          split at hj
          · split at hj
            · cases hj; omega
            · cases hj
          · split at hj
            · cases hj; omega
            · cases hj
        refine ⟨bs[j], List.getElem?_eq_getElem hlt, ?_⟩
        show (bs.map V.ref)[j]? = _
        rw [List.getElem?_map, List.getElem?_eq_getElem hlt]; rfl
      obtain ⟨b, hb, hat⟩ := hj2
      obtain ⟨ds, xs, hds, hB, hA⟩ := i1.ob.at_ hb
      refine .inl ⟨p, _, z, .ref b, rfl, rfl, SqL.of i1.op, hat, .inl ⟨rfl, xs, SqL.of hB⟩, ?_⟩
      refine ⟨φ1, ρ, μ1, i1.rs, ?_⟩
      cases e1 : fe ρ μ1 with
      | none => rw [e1] at k1; exact k1.elim
      | some r =>
        cases r with
        | ex x μ2 => rw [e1] at k1; unfold xCons; rw [e1]; exact XP.grow i1.g k1
        | ok w μ2 =>
          rw [e1] at k1
          unfold xCons xNil
          rw [e1]
          simp only [bd] at k1 ⊢
          intro φ2 vs H2 g2 c2 r2
          obtain ⟨v, rfl, r3⟩ := rvs1 r2
          have i2 := i1.step g2 c2
          split at k1
          · rename_i d
            rw [hds] at k1
            dsimp only at k1
            cases hlt : decide (ds.length < 900) with
            | false => rw [hlt] at k1; exact k1.elim
            | true =>
              rw [hlt] at k1
              have hlt := of_decide_eq_true hlt
              obtain ⟨ds', xs', hds', hB', hA'⟩ := i2.ob.at_ hb
              rw [hds] at hds'; cases hds'
              have ha2 : DaAll X.K φ2.av H2 (ds ++ [d]) (xs' ++ [v]) := DaAll.append hA' (show DaAll X.K φ2.av H2 [d] [v] from ⟨v, [], rfl, r3, rfl⟩)
              refine ⟨b, xs', v, rfl, rfl, hB', by rw [← hA'.len]; exact size_lt (by omega), ?_⟩
              exact k1 φ2 σ _ bs (g2.w.trans (GrowW.at_b i2 (List.mem_cons_of_mem _ (List.mem_of_getElem? hb)) hB')) (i2.put hb ha2 (by simp; omega))
          · exact k1.elim
    · exact k1.elim
  · exact k1.elim
end
section
variable {K : PySem.W.Frag} {sl : Nat} {φ0 φ φ1 : Ph} {H0 H H1 : Hp} {p : Addr} {bs : List Addr} {σ : L2.St} {ρ : Rho} {μ μ1 : Mu} {nss : LL} {E : XK} {D : Ends}
theorem NLs.snoc {A : List Addr} {q : Addr} {ds : List PyData} {xs : List V} (h1 : H q = some (.lst xs)) (h2 : DaAll K A H ds xs) : ∀ {bs : List Addr} {nss : LL}, NLs K A H bs nss → NLs K A H (bs ++ [q]) (nss ++ [ds])
  | [], _, h => by rw [show _ = [] from h]; exact ⟨ds, [], xs, rfl, h1, h2, rfl⟩
  | c :: bs, _, ⟨ds0, r, xs0, e, h3, h4, h5⟩ => by subst e; exact ⟨ds0, r ++ [ds], xs0, rfl, h3, h4, NLs.snoc h1 h2 h5⟩
/-- a fresh place is set apart -/
theorem Grow.apart {q : Addr} {o : HO} (hq : H q = none) : Grow φ (φ.1 ++ [q], φ.2) H (upd H q o) :=
  ⟨⟨[q], rfl, fun a ha => by rw [List.mem_singleton.mp ha]; exact hq⟩, ⟨[], by simp, by simp⟩, fun a u h _ _ => by rw [upd_ne (ne_of_none h hq)]; exact h, (Grow.laid (φ := φ) (o := o) hq).live⟩
theorem Cells.apart (c : Cells K φ H μ) {q : Addr} {o : HO} (hq : H q = none) : Cells K (φ.1 ++ [q], φ.2) (upd H q o) μ := by
  have c1 := c.laid (o := o) hq
  refine ⟨c.nd, c.len, fun n a ds h1 h2 => ?_, fun a ha => ?_, c1.tb⟩
  · obtain ⟨xs, h, hs⟩ := c.at_ n a ds h1 h2
    exact ⟨xs, by rw [upd_ne (ne_of_none h hq)]; exact h, DaAll.step (Grow.apart (φ := φ) hq).w _ _ hs⟩
  · rcases List.mem_append.mp ha with ha | ha
    · exact c1.tr a ha
    · rw [List.mem_singleton.mp ha, upd_same]; simp
/-- a new list behind the others -/
theorem NS.add (i : NS K sl φ0 H0 p bs φ σ H ρ μ nss) {q : Addr} {ds : List PyData} {xs : List V} (hq0 : H0 q = none) (hq1 : q ∈ φ.1) (hq2 : q ∉ φ.2) (hqn : q ∉ p :: bs) (hq : H q = some (.lst xs)) (hs : DaAll K φ.av H ds xs) (hl : ds.length ≤ 1000) (hb : bs.length < 1000) :
    NS K sl φ0 H0 p (bs ++ [q]) φ σ (upd H p (.lst (bs.map V.ref ++ [.ref q]))) ρ μ (nss ++ [ds]) := by
  have hp : p ∈ p :: bs := List.mem_cons_self ..
  have nd' := List.nodup_cons.mp i.nd
  have hqp : q ≠ p := fun z => hqn (by rw [z]; exact hp)
  have mem : ∀ {a}, a ∈ p :: (bs ++ [q]) → a ∈ p :: bs ∨ a = q := fun {a} ha => by
    rcases List.mem_cons.mp ha with ha | ha
    · exact .inl (by rw [ha]; exact hp)
    · rcases List.mem_append.mp ha with ha | ha
      · exact .inl (List.mem_cons_of_mem _ ha)
      · exact .inr (List.mem_singleton.mp ha)
  refine ⟨⟨i.g.fst, i.g.pre, fun a o e hn nt => ?_, fun a z => ?_⟩, fun a ha => ?_, fun a ha => ?_, fun a ha => ?_, ?_, RS.wr i.rs (i.m1 p hp) (i.m2 p hp) i.op trivial, i.s0, by rw [upd_same, List.map_append]; rfl, NLs.snoc (by rw [upd_ne hqp]; exact hq) (DaAll.wr (List.mem_append_left _ (i.m1 p hp)) i.op trivial _ _ hs) (NLs.wr (i.m1 p hp) i.op trivial nd'.1 i.ob), by simp; omega, fun z hz => ?_⟩
  · rw [upd_ne (ne_of_none e (i.hx p hp))]; exact i.g.ext a o e hn nt
  · by_cases e : a = p
    · rw [e]; exact i.hx p hp
    · rw [upd_ne e] at z; exact i.g.live a z
  · rcases mem ha with h | h
    · exact i.hx a h
    · rw [h]; exact hq0
  · rcases mem ha with h | h
    · exact i.m1 a h
    · rw [h]; exact hq1
  · rcases mem ha with h | h
    · exact i.m2 a h
    · rw [h]; exact hq2
  · refine List.nodup_cons.mpr ⟨fun z => ?_, List.nodup_append.mpr ⟨nd'.2, by simp, fun a ha b hb e => ?_⟩⟩
    · rcases List.mem_append.mp z with z | z
      · exact nd'.1 z
      · exact hqp (List.mem_singleton.mp z).symm
    · rw [List.mem_singleton.mp hb] at e; subst e; exact hqn (List.mem_cons_of_mem _ ha)
  · rcases List.mem_append.mp hz with hz | hz
    · exact i.len.2 z hz
    · rw [List.mem_singleton.mp hz]; exact hl
end
section
variable {X : Cx} {sl : Nat} {E : XK} {pos pos' p1 p2 : Pos} {e c ke : Expr} {st : Stmt} {a b rest : List Stmt}
def nIf (t : BX) (g : NX) : NX := fun nss ρ μ => bd (t ρ μ) fun b μ1 => bif b then g nss ρ μ1 else some (.ok (nss, ρ) μ1)
theorem n_if {t : BX} {g : NX} (hc : PT X c (tXB X.K (wf E) t)) (ha : PSs X a (tNS X.K sl E g)) : PS X (.If c a [] pos) (tNS X.K sl E (nIf t g)) := PS.to (ps_if hc ha pss_nil) fun D σ H ⟨φ0, H0, p, bs, φ, ρ, μ, nss, i, k⟩ => by
  refine ⟨φ, ρ, μ, i.rs, ?_⟩
  unfold nIf at k
  cases e : t ρ μ with
  | none => rw [e] at k; exact k.elim
  | some r =>
    rw [e] at k
    cases r with
    | ex y μ1 => exact XP.grow i.g k
    | ok b μ1 =>
      intro φ1 H1 g1 c1
      have i1 := i.step g1 c1
      cases b with
      | false => exact L2.iteF (k φ1 σ H1 bs g1.w i1)
      | true => exact L2.iteT ⟨φ0, H0, p, bs, φ1, ρ, μ1, nss, i1, NP.grow g1.w k⟩
/-- found.append([e]) -/
def nNew (fe : EX) : NX := fun nss ρ μ => bd (fe ρ μ) fun w μ1 => match w with
  | .d d => bif decide (nss.length < 900) then some (.ok (nss ++ [[d]], ρ) μ1) else none
  | _ => none
theorem n_new {x : Str} {fe : EX} {apos cpos lpos : Pos} (he : PE X e (tX X.K (wf E) fe)) (hN : X.N[sl]? = some x := by rfl) (hv : Vis X.env.scope x := by first | exact Or.inl rfl | exact Or.inr (Or.inl rfl) | exact Or.inr (Or.inr rfl))
    (hd : (x == ("__debug__" : Str)) = false := by decide) (hcd : (x == ("__classdict__" : Str)) = false := by decide)
    (hbase : attributeBase (.Name x p1) "append" X.env (eval (.Name x p1) X.env) = eval (.Name x p1) X.env := by rfl)
    (hfew : ((backTo cpos (starEach [.List [e] lpos] X.env)).all (fun x => !x.1) && (backToKw cpos (keywordEach [] X.env)).all (fun x => x.1.isSome) && decide (([.List [e] lpos] : List Expr).length + ([] : List Keyword).length + (if ([] : List Keyword).isEmpty then 0 else 1) < 30)) = true := by rfl)
    (hline : (apos.endLine == cpos.line) = true := by rfl) (hs : starEach [.List [e] lpos] X.env = (false, eval (.List [e] lpos) X.env) :: starEach [] X.env := by rfl) (hs1 : starEach [e] X.env = (false, eval e X.env) :: starEach [] X.env := by rfl) (hplain : (backTo cpos (starEach [] X.env)).any (·.1) = false := by rfl)
    (hsw : swapsWith (.Call (.Attribute (.Name x p1) "append" apos) [.List [e] lpos] [] cpos) none pos.line X.env = pure false := by rfl) : PS X (.Expr (.Call (.Attribute (.Name x p1) "append" apos) [.List [e] lpos] [] cpos) pos) (tNS X.K sl E (nNew fe)) :=
  PS.to (ps_expr (pe_bm PySem.F.plainAttrs_list PySem.F.slot_list_append PySem.F.type_list_append mt_append (pe_var hN hv hd hcd) (pa_cons (pe_lst (yaj_cons he yaj_nil hs1)) pa_nil hs) hbase hfew hline hs hplain) hsw) fun D σ H ⟨φ0, H0, p, bs, φ, ρ, μ, nss, i, k⟩ => by
  refine ⟨.ref p, i.s0, .inl ⟨rfl, _, SqL.of i.op⟩, φ, ρ, μ, i.rs, ?_⟩
  unfold nNew at k
  cases e1 : fe ρ μ with
  | none => rw [e1] at k; exact k.elim
  | some r =>
    cases r with
    | ex y μ2 => rw [e1] at k; unfold xCons; rw [e1]; exact XP.grow i.g k
    | ok w μ2 =>
      rw [e1] at k
      unfold xCons xNil
      rw [e1]
      simp only [bd] at k ⊢
      intro φ2 vs H2 g2 c2 r2
      obtain ⟨v, rfl, r3⟩ := rvs1 r2
      have i2 := i.step g2 c2
      split at k
      · rename_i d
        cases hlt : decide (nss.length < 900) with
        | false => rw [hlt] at k; exact k.elim
        | true =>
          rw [hlt] at k
          have hlt := of_decide_eq_true hlt
          refine ⟨by show 1 ≤ sizeLine; decide, fun q hq => ?_⟩
          have g3 : Grow φ2 (φ2.1 ++ [q], φ2.2) H2 (upd H2 q (.lst [v])) := Grow.apart hq
          have i3 := i2.step g3 (VY.Cells.apart c2 (o := .lst [v]) hq)
          have hbl : bs.length < 900 := by rw [← i2.ob.length]; exact hlt
          have live : ∀ a ∈ p :: bs, H2 a ≠ none := fun a ha => by
            rcases List.mem_cons.mp ha with e | ha
            · rw [e, i2.op]; simp
            · obtain ⟨j, hj⟩ := List.getElem?_of_mem ha
              obtain ⟨ds, xs, _, h, _⟩ := i2.ob.at_ hj
              rw [h]; simp
          have hqn : q ∉ p :: bs := fun z => live q z hq
          have hq0 : H0 q = none := i2.g.live q hq
          have hq2 : q ∉ φ2.2 := fun z => by
            obtain ⟨n, hn⟩ := List.getElem?_of_mem z
            obtain ⟨xs, hx⟩ := c2.mem z
            rw [hq] at hx; cases hx
          refine ⟨p, bs.map V.ref, .ref q, rfl, rfl, i3.op, by rw [List.length_map]; exact size_lt (by omega), ?_⟩
          refine k (φ2.1 ++ [q], φ2.2) σ _ (bs ++ [q]) ((g2.w.trans g3.w).trans (GrowW.at_b i3 (List.mem_cons_self ..) i3.op)) (i3.add hq0 (by simp) hq2 hqn upd_same ⟨v, [], rfl, ?_, rfl⟩ (by simp) (by omega))
          exact Da.step g3.w _ _ r3
      · exact k.elim
end
noncomputable def nForL (j : Nat) (g : NX) : List PyData → NX
  | [], nss, ρ, μ => some (.ok (nss, ρ) μ)
  | d :: ds, nss, ρ, μ => bd (g nss (ρ.set j (some (.d d))) μ) fun r μ1 => nForL j g ds r.1 r.2 μ1
noncomputable def nFor (fi : IF) (j : Nat) (g : NX) : NX := fun nss ρ μ => match fi ρ μ with
  | some (ds, none, μ1) => nForL j g ds nss ρ μ1
  | _ => none
theorem NLs.da {K : PySem.W.Frag} {A A' : List Addr} {H : Hp} (hs : ∀ a ∈ A, a ∈ A') : ∀ {bs : List Addr} {nss : LL}, (∀ b ∈ bs, b ∉ A) → NLs K A' H bs nss → DaAll K A H (nss.map PyData.list) (bs.map V.ref)
  | [], _, _, h => by rw [show _ = [] from h]; rfl
  | b :: bs, _, hm, ⟨ds, r, xs, e, h1, h2, h3⟩ => by
    subst e
    exact ⟨.ref b, bs.map V.ref, rfl, ⟨b, xs, rfl, hm b (List.mem_cons_self ..), h1, DaAll.weak hs _ _ h2⟩, NLs.da hs (fun c hc => hm c (List.mem_cons_of_mem _ hc)) h3⟩
section
variable {X : Cx} {sl : Nat} {E : XK} {pos pos' p1 p2 p : Pos} {e iter : Expr} {st : Stmt} {body rest : List Stmt} {z : Str}
theorem n_for {x : Str} {j : Nat} {fi : IF} {g : NX} (hp : PassesOwn (model X.prog X.w) X.A X.env X.xe) (hc : X.calm = true) (hi : PI X (.Name x p1) iter (VL.tI X.K fi)) (hN : X.N.Nodup) (hj : j ≠ sl) (hb : PSs X body (tNS X.K sl E g)) (hix : X.N[j]? = some x := by rfl) (hx : Loc X.env.scope x := by first | exact Or.inl rfl | exact Or.inr rfl)
    (hf : X.fn x = true ∨ X.env.scope.names.lookup x = some .local := by first | exact .inl rfl | exact .inr rfl) (hs : ∀ x, foldedSetIterable iter X.env x = pure x := by intro _; rfl) : PS X (.For (.Name x p1) iter body [] pos) (tNS X.K sl E (nFor fi j g)) :=
  PS.to (ps_for hp hc hi (pg_name hN hix hx hf) hb hs) fun D σ H ⟨φ0, H0, p, bs, φ, ρ, μ, nss, i, k⟩ => by
  unfold nFor at k
  split at k
  · rename_i ds μ1 e1
    refine ⟨φ, ρ, μ, ds, none, μ1, i.rs, e1, fun φ1 J H1 g1 c1 wk => ?_⟩
    have i1 := i.step g1 c1
    have k1 := NP.grow g1.w k
    refine ⟨fun n m σ' H' => m = ds.length - n ∧ ∃ φ2 ρ2 μ2 bs2 nss2, GrowW φ1 φ2 H1 H' ∧ NS X.K sl φ0 H0 p bs2 φ2 σ' H' ρ2 μ2 nss2 ∧ NP X.K sl φ0 H0 p φ2 H' E D (nForL j g (ds.drop n) nss2 ρ2 μ2), ⟨_, rfl, φ1, ρ, μ1, bs, nss, (Grow.refl _ _).w, i1, k1⟩, ?_⟩
    rintro n m σ2 H2 ⟨rfl, φ2, ρ2, μ2, bs2, nss2, g2, i2, k2⟩
    cases hdi : ds.drop n with
    | nil =>
      rw [hdi] at k2
      have hl : ds.length ≤ n := List.drop_eq_nil_iff.mp hdi
      exact .inl ⟨(wk φ2 H2 μ2 g2 i2.rs.c (fun _ h => nomatch h) n).2 hl, k2 φ2 σ2 H2 bs2 (Grow.refl _ _).w i2⟩
    | cons d r =>
      rw [hdi] at k2
      have hil : n < ds.length := by
        by_cases z : n < ds.length
        · exact z
        · rw [List.drop_eq_nil_iff.mpr (by omega)] at hdi; cases hdi
      have hdg : ds[n]? = some d := by
        have := List.getElem?_drop (xs := ds) (i := n) (j := 0)
        rw [hdi] at this
        simpa using this.symm
      have hdr : ds.drop (n + 1) = r := by
        have : (ds.drop n).drop 1 = ds.drop (n + 1) := by rw [List.drop_drop]
        rw [← this, hdi]; rfl
      obtain ⟨go, hy⟩ := (wk φ2 H2 μ2 g2 i2.rs.c (fun _ h => nomatch h) n).1 d hdg
      refine .inr ⟨go, fun σ' H' => ∃ φ3 ρ3 μ3 bs3 nss3, GrowW φ1 φ3 H1 H' ∧ NS X.K sl φ0 H0 p bs3 φ3 σ' H' ρ3 μ3 nss3 ∧ NP X.K sl φ0 H0 p φ3 H' E D (nForL j g (ds.drop (n + 1)) nss3 ρ3 μ3), fun σ' H' hN => ⟨ds.length - (n + 1), by omega, rfl, hN⟩, fun x H3 hyl => ?_⟩
      obtain ⟨g3, c3, hx⟩ := hy x H3 hyl
      have i3 := i2.step g3 c3
      refine ⟨φ0, H0, p, bs2, φ2, ρ2.set j (some (.d d)), μ2, nss2, ⟨i3.g, i3.hx, i3.m1, i3.m2, i3.nd, i3.rs.put hx, by rw [List.getElem?_set_ne hj]; exact i3.s0, i3.op, i3.ob, i3.len⟩, ?_⟩
      have k3 := NP.grow g3.w k2
      rw [hdr]
      exact RsP.bd k3 fun q μ1 _ k4 φ' σ' H' bs' g' i' => ⟨φ', q.2, μ1, bs', q.1, (g2.trans g3.w).trans g', i', NP.grow g' k4⟩
  · exact k.elim
def tNSr (K : PySem.W.Frag) (sl : Nat) (E : XK) (g : NX) : TS := fun D σ H => ∃ φ0 H0 p bs φ ρ μ nss, NS K sl φ0 H0 p bs φ σ H ρ μ nss ∧ RsP K φ0 H0 E (fun r μ' => ∀ φ' σ' H' bs', NS K sl φ0 H0 p bs' φ' σ' H' r.2 μ' r.1 → D.rt (.ref p) H') (g nss ρ μ)
theorem n_ret (hN : X.N[sl]? = some z := by rfl) (hv : Vis X.env.scope z := by first | exact Or.inl rfl | exact Or.inr (Or.inl rfl) | exact Or.inr (Or.inr rfl)) (hd : (z == ("__debug__" : Str)) = false := by decide) (hcd : (z == ("__classdict__" : Str)) = false := by decide) :
    PSs X [.Return (some (.Name z p)) pos] (tNSr X.K sl E nNil) := PSs.to (pss_one (ps_ret (pe_var hN hv hd hcd))) fun D σ H ⟨φ0, H0, p, bs, φ, ρ, μ, nss, i, k⟩ => ⟨.ref p, i.s0, k φ σ H bs i⟩
theorem n_consr {g h : NX} (h1 : PS X st (tNS X.K sl E g)) (h2 : PSs X rest (tNSr X.K sl E h)) : PSs X (st :: rest) (tNSr X.K sl E (nSeq g h)) := PSs.to (pss_cons h1 h2) fun D σ H ⟨φ0, H0, p, bs, φ, ρ, μ, nss, i, k⟩ =>
  ⟨φ0, H0, p, bs, φ, ρ, μ, nss, i, RsP.bd k fun r μ1 _ k1 φ' σ' H' bs' g i' => ⟨φ0, H0, p, bs', φ', r.2, μ1, r.1, i', k1⟩⟩
/-- found = [[e]]; ..; return found -/
noncomputable def yMk (sl : Nat) (fe : EX) (g : NX) : SX := fun ρ μ => bif emptyAt ρ sl then bd (fe ρ μ) fun w μ1 => (match w with
  | .d d => bd (g [[d]] ρ μ1) fun r μ2 => some (.ok (.rt (.d (.list (r.1.map PyData.list)))) μ2)
  | _ => none) else none
theorem n_make {fe : EX} {g : NX} {lp1 lp2 : Pos} (hN : X.N.Nodup) (he : PE X e (tX X.K (wf E) fe)) (h2 : PSs X rest (tNSr X.K sl E g)) (hi : X.N[sl]? = some z := by rfl) (hx : Loc X.env.scope z := by first | exact Or.inl rfl | exact Or.inr rfl)
    (hs : swapsWith (.List [.List [e] lp1] lp2) (some (.Name z pos')) pos.line X.env = pure false := by rfl) (hf : X.fn z = true ∨ X.env.scope.names.lookup z = some .local := by first | exact .inl rfl | exact .inr rfl)
    (hs1 : starEach [e] X.env = (false, eval e X.env) :: starEach [] X.env := by rfl) (hs2 : starEach [.List [e] lp1] X.env = (false, eval (.List [e] lp1) X.env) :: starEach [] X.env := by rfl) :
    PSs X (.Assign [.Name z pos'] (.List [.List [e] lp1] lp2) pos :: rest) (tXS X.K (wf E) (yMk sl fe g)) :=
  PSs.to (pss_cons (ps_set hN hi hx (pe_lst (pa_cons (pe_lst (yaj_cons he yaj_nil hs1)) pa_nil hs2)) hs hf) h2) fun D σ H ⟨φ, ρ, μ, rs, k⟩ => by
  unfold yMk at k
  cases hem : emptyAt ρ sl with
  | false => rw [hem] at k; exact k.elim
  | true =>
    rw [hem, cond_true] at k
    have hρ : ρ[sl]? = some none := by
      unfold emptyAt at hem
      split at hem
      · assumption
      · cases hem
    refine ⟨φ, ρ, μ, rs, ?_⟩
    cases e1 : fe ρ μ with
    | none => rw [e1] at k; exact k.elim
    | some r =>
      cases r with
      | ex y μ2 => rw [e1] at k; unfold xCons; rw [e1]; exact k
      | ok w μ2 =>
        rw [e1] at k
        unfold xCons xNil
        rw [e1]
        simp only [bd] at k ⊢
        intro φ1 vs H1 g1 c1 r1
        obtain ⟨v, rfl, r3⟩ := rvs1 r1
        split at k
        · rename_i d
          refine ⟨by show 1 ≤ sizeLine; decide, fun b hb => ?_⟩
          refine ⟨by show 1 ≤ sizeLine; decide, fun p hp => ?_⟩
          have gA : Grow φ1 (φ1.1 ++ [b], φ1.2) H1 (upd H1 b (.lst [v])) := Grow.apart hb
          have cA := VY.Cells.apart c1 (o := .lst [v]) hb
          have gB : Grow (φ1.1 ++ [b], φ1.2) ((φ1.1 ++ [b]) ++ [p], φ1.2) (upd H1 b (.lst [v])) (upd (upd H1 b (.lst [v])) p (.lst [.ref b])) := Grow.apart (φ := (φ1.1 ++ [b], φ1.2)) hp
          have cB := VY.Cells.apart cA (o := .lst [.ref b]) hp
          have g2 := gA.trans gB
          have hbp : b ≠ p := fun e => by subst e; rw [upd_same] at hp; cases hp
          have hp1 : H1 p = none := by rwa [upd_ne (Ne.symm hbp)] at hp
          have r2 := (rs.step g1.w c1).step g2.w cB
          have n2 : ∀ a, H1 a = none → a ∉ φ1.2 := fun a ha z => by
            obtain ⟨xs, hx⟩ := c1.mem z
            rw [ha] at hx; cases hx
          have n1 : ∀ a, H1 a = none → a ∉ φ1.1 := fun a ha z => c1.tr a z ha
          refine ⟨φ1, H1, p, [b], ((φ1.1 ++ [b]) ++ [p], φ1.2), ρ, μ2, [[d]], ⟨g2, fun a ha => ?_, fun a ha => ?_, fun a ha => ?_, by simp [Ne.symm hbp], ⟨cB, by rw [List.length_set]; exact r2.len, fun i w h => ?_⟩, ?_, upd_same, ⟨[d], [], [v], rfl, by rw [upd_ne hbp, upd_same], ⟨v, [], rfl, Da.step g2.w _ _ r3, rfl⟩, rfl⟩, ⟨by simp, by simp⟩⟩, ?_⟩
          · simp at ha
            rcases ha with rfl | rfl
            · exact hp1
            · exact hb
          · simp at ha
            rcases ha with rfl | rfl <;> simp
          · simp at ha
            rcases ha with rfl | rfl
            · exact n2 _ hp1
            · exact n2 _ hb
          · by_cases hi : sl = i
            · subst hi; rw [hρ] at h; cases h
            · rw [List.getElem?_set_ne hi]; exact r2.at_ i w h
          · have hl : sl < σ.length := by rw [rs.len]; exact (List.getElem?_eq_some_iff.mp hρ).1
            rw [List.getElem?_set_self hl]
          · cases e2 : g [[d]] ρ μ2 with
            | none => rw [e2] at k; exact k.elim
            | some q =>
              rw [e2] at k
              cases q with
              | ex y μ3 => exact XP.grow g1 k
              | ok r μ3 =>
                intro φ' σ' H' bs' i'
                have hsub : ∀ a ∈ Ph.av (φ1.1, φ'.2), a ∈ φ'.av := fun a ha => by
                  rcases List.mem_append.mp ha with ha | ha
                  · obtain ⟨χ, e, _⟩ := i'.g.fst
                    exact List.mem_append_left _ (by rw [e]; exact List.mem_append_left _ ha)
                  · exact List.mem_append_right _ ha
                have hout : ∀ a ∈ p :: bs', a ∉ Ph.av (φ1.1, φ'.2) := fun a ha z => by
                  rcases List.mem_append.mp z with z | z
                  · exact n1 a (i'.hx a ha) z
                  · exact i'.m2 a ha z
                refine k (φ1.1, φ'.2) (.ref p) H' (g1.trans ⟨⟨[], by simp, by simp⟩, i'.g.pre, i'.g.ext, i'.g.live⟩) ⟨i'.rs.c.nd, i'.rs.c.len, fun n a ds h1 h2 => ?_, fun a ha z => c1.tr a ha (i'.g.live a z), i'.rs.c.tb⟩ ⟨p, _, rfl, hout p (List.mem_cons_self ..), i'.op, NLs.da hsub (fun b hb => hout b (List.mem_cons_of_mem _ hb)) i'.ob⟩
                obtain ⟨xs, h3, h4⟩ := i'.rs.c.at_ n a ds h1 h2
                exact ⟨xs, h3, DaAll.weak hsub _ _ h4⟩
        · exact k.elim
end
end VY
end
section
set_option Elab.async false
set_option linter.all false
set_option maxRecDepth 100000
set_option maxHeartbeats 2000000
/-! a list of its own that is changed, then handed to another list -/
namespace VY
open PySem PySem.Spec PyProof.Rows L2 VL
variable [LawTabs]
abbrev OX := List PyData → Rho → Mu → RM (List PyData × Rho)
structure OS (K : PySem.W.Frag) (sl : Nat) (φ0 : Ph) (H0 : Hp) (q : Addr) (φ : Ph) (σ : L2.St) (H : Hp) (ρ : Rho) (μ : Mu) (ds : List PyData) : Prop where
  g : Grow φ0 φ H0 H
  hx : H0 q = none
  m1 : q ∈ φ.1
  m2 : q ∉ φ.2
  rs : RS K φ σ H ρ μ
  s0 : σ[sl]? = some (some (.ref q))
  ob : ∃ xs, H q = some (.lst xs) ∧ DaAll K φ.av H ds xs
def OP (K : PySem.W.Frag) (sl : Nat) (φ0 : Ph) (H0 : Hp) (q : Addr) (φ : Ph) (H : Hp) (E : XK) (D : Ends) : RM (List PyData × Rho) → Prop :=
  RsP K φ0 H0 E fun r μ' => ∀ φ' σ' H', GrowW φ φ' H H' → OS K sl φ0 H0 q φ' σ' H' r.2 μ' r.1 → D.nx σ' H'
def tOS (K : PySem.W.Frag) (sl : Nat) (E : XK) (g : OX) : TS := fun D σ H => ∃ φ0 H0 q φ ρ μ ds, OS K sl φ0 H0 q φ σ H ρ μ ds ∧ OP K sl φ0 H0 q φ H E D (g ds ρ μ)
section
variable {K : PySem.W.Frag} {sl : Nat} {φ0 φ φ1 : Ph} {H0 H H1 : Hp} {q : Addr} {σ : L2.St} {ρ : Rho} {μ μ1 : Mu} {ds : List PyData} {E : XK} {D : Ends}
theorem OS.step (i : OS K sl φ0 H0 q φ σ H ρ μ ds) (g1 : Grow φ φ1 H H1) (c1 : Cells K φ1 H1 μ1) : OS K sl φ0 H0 q φ1 σ H1 ρ μ1 ds := by
  obtain ⟨xs, h, hs⟩ := i.ob
  refine ⟨i.g.trans g1, i.hx, ?_, g1.out2 (by rw [h]; simp) i.m2, i.rs.step g1.w c1, i.s0, xs, g1.ext _ _ h (fun z => absurd z i.m2) (fun ps z => by cases z), DaAll.step g1.w _ _ hs⟩
  obtain ⟨χ, e, _⟩ := g1.fst
  rw [e]; exact List.mem_append_left _ i.m1
theorem OP.grow {m : RM (List PyData × Rho)} (g1 : GrowW φ φ1 H H1) (h : OP K sl φ0 H0 q φ H E D m) : OP K sl φ0 H0 q φ1 H1 E D m := RsP.imp h fun r μ' k φ' σ' H' g i => k φ' σ' H' (g1.trans g) i
theorem vp_os {Q : VK} {m : RM Vw} {k : Vw → Mu → RM (List PyData × Rho)} (i : OS K sl φ0 H0 q φ σ H ρ μ ds) (h : OP K sl φ0 H0 q φ H E D (bd m k))
    (hQ : ∀ w μ1 φ1 v H1, Grow φ φ1 H H1 → Cells K φ1 H1 μ1 → RV K φ1 H1 w v → OP K sl φ0 H0 q φ1 H1 E D (k w μ1) → Q v H1) : VP K φ H E Q m := by
  cases m with
  | none => exact h.elim
  | some r =>
    cases r with
    | ex e μ1 => exact XP.grow i.g h
    | ok w μ1 => exact fun φ1 v H1 g1 c1 r1 => hQ w μ1 φ1 v H1 g1 c1 r1 (OP.grow g1.w h)
theorem OS.put (i : OS K sl φ0 H0 q φ σ H ρ μ ds) {es : List PyData} {ys : List V} (hs : DaAll K φ.av H es ys) : OS K sl φ0 H0 q φ σ (upd H q (.lst ys)) ρ μ es := by
  obtain ⟨xs, h, _⟩ := i.ob
  refine ⟨⟨i.g.fst, i.g.pre, fun a o e hn nt => ?_, fun a z => ?_⟩, i.hx, i.m1, i.m2, RS.wr i.rs i.m1 i.m2 h trivial, i.s0, ys, upd_same, DaAll.wr (List.mem_append_left _ i.m1) h trivial _ _ hs⟩
  · rw [upd_ne (ne_of_none e i.hx)]; exact i.g.ext a o e hn nt
  · by_cases e : a = q
    · rw [e]; exact i.hx
    · rw [upd_ne e] at z; exact i.g.live a z
theorem GrowW.at_q (hq : q ∈ φ.1) {xs ys : List V} (h : H q = some (.lst xs)) : GrowW φ φ H (upd H q (.lst ys)) := by
  refine ⟨⟨[], by simp, by simp⟩, ⟨[], by simp, by simp⟩, fun a o e hn nt => ?_, fun a z => ?_⟩
  · by_cases ea : a = q
    · subst ea
      rw [h] at e; cases e
      exact absurd rfl (hn (List.mem_append_left _ hq) xs)
    · rw [upd_ne ea]; exact e
  · by_cases ea : a = q
    · subst ea; rw [upd_same] at z; cases z
    · rwa [upd_ne ea] at z
end
section
variable {X : Cx} {sl : Nat} {E : XK} {pos pos' p1 p2 : Pos} {e c iter : Expr} {st : Stmt} {a body rest : List Stmt} {z : Str}
def oNil : OX := fun ds ρ μ => some (.ok (ds, ρ) μ)
def oSeq (g h : OX) : OX := fun ds ρ μ => bd (g ds ρ μ) fun r μ1 => h r.1 r.2 μ1
theorem o_nil : PSs X [] (tOS X.K sl E oNil) := PSs.to pss_nil fun D σ H ⟨φ0, H0, q, φ, ρ, μ, ds, i, k⟩ => k φ σ H (Grow.refl _ _).w i
theorem o_cons {g h : OX} (h1 : PS X st (tOS X.K sl E g)) (h2 : PSs X rest (tOS X.K sl E h)) : PSs X (st :: rest) (tOS X.K sl E (oSeq g h)) := PSs.to (pss_cons h1 h2) fun D σ H ⟨φ0, H0, q, φ, ρ, μ, ds, i, k⟩ =>
  ⟨φ0, H0, q, φ, ρ, μ, ds, i, RsP.bd k fun r μ1 _ k1 φ' σ' H' g i' => ⟨φ0, H0, q, φ', r.2, μ1, r.1, i', OP.grow g k1⟩⟩
def oSet (j : Nat) (f : EX) : OX := fun ds ρ μ => bd (f ρ μ) fun w μ1 => some (.ok (ds, ρ.set j (some w)) μ1)
theorem o_set {j : Nat} {x : Str} {f : EX} (hN : X.N.Nodup) (hj : j ≠ sl) (he : PE X e (tX X.K (wf E) f)) (hi : X.N[j]? = some x := by rfl) (hx : Loc X.env.scope x := by first | exact Or.inl rfl | exact Or.inr rfl) (hs : swapsWith e (some (.Name x pos')) pos.line X.env = pure false := by rfl)
    (hf : X.fn x = true ∨ X.env.scope.names.lookup x = some .local := by first | exact .inl rfl | exact .inr rfl) : PS X (.Assign [.Name x pos'] e pos) (tOS X.K sl E (oSet j f)) := PS.to (ps_set hN hi hx he hs hf) fun D σ H ⟨φ0, H0, q, φ, ρ, μ, ds, i, k⟩ => by
  refine ⟨φ, ρ, μ, i.rs, vp_os i k fun w μ1 φ1 v H1 g1 c1 r1 k1 => ?_⟩
  have i1 := i.step g1 c1
  exact k1 φ1 _ H1 (Grow.refl _ _).w ⟨i1.g, i1.hx, i1.m1, i1.m2, i1.rs.put r1, by rw [List.getElem?_set_ne hj]; exact i1.s0, i1.ob⟩
/-- if: the test never holds -/
def oNo (t : BX) : OX := fun ds ρ μ => bd (t ρ μ) fun b μ1 => bif b then none else some (.ok (ds, ρ) μ1)
theorem o_no {t : BX} (hc : PT X c (tXB X.K (wf E) t)) : PS X (.If c a [] pos) (tOS X.K sl E (oNo t)) := PS.to (ps_if hc pss_no pss_nil) fun D σ H ⟨φ0, H0, q, φ, ρ, μ, ds, i, k⟩ => by
  refine ⟨φ, ρ, μ, i.rs, ?_⟩
  unfold oNo at k
  cases e : t ρ μ with
  | none => rw [e] at k; exact k.elim
  | some r =>
    rw [e] at k
    cases r with
    | ex y μ1 => exact XP.grow i.g k
    | ok b μ1 =>
      intro φ1 H1 g1 c1
      cases b with
      | false => exact L2.iteF (k φ1 σ H1 g1.w (i.step g1 c1))
      | true => exact k.elim
/-- x.extend(e), e a list of data -/
def oExt (fe : EX) : OX := fun ds ρ μ => bd (fe ρ μ) fun w μ1 => match w with
  | .d (.list es) => bif decide (ds.length + es.length < 900) then some (.ok (ds ++ es, ρ) μ1) else none
  | _ => none
theorem o_ext {x : Str} {fe : EX} {apos cpos : Pos} (he : PE X e (tX X.K (wf E) fe)) (hN : X.N[sl]? = some x := by rfl) (hv : Vis X.env.scope x := by first | exact Or.inl rfl | exact Or.inr (Or.inl rfl) | exact Or.inr (Or.inr rfl))
    (hd : (x == ("__debug__" : Str)) = false := by decide) (hcd : (x == ("__classdict__" : Str)) = false := by decide)
    (hbase : attributeBase (.Name x p1) "extend" X.env (eval (.Name x p1) X.env) = eval (.Name x p1) X.env := by rfl)
    (hfew : ((backTo cpos (starEach [e] X.env)).all (fun x => !x.1) && (backToKw cpos (keywordEach [] X.env)).all (fun x => x.1.isSome) && decide (([e] : List Expr).length + ([] : List Keyword).length + (if ([] : List Keyword).isEmpty then 0 else 1) < 30)) = true := by rfl)
    (hline : (apos.endLine == cpos.line) = true := by rfl) (hs : starEach [e] X.env = (false, eval e X.env) :: starEach [] X.env := by rfl) (hplain : (backTo cpos (starEach [] X.env)).any (·.1) = false := by rfl)
    (hsw : swapsWith (.Call (.Attribute (.Name x p1) "extend" apos) [e] [] cpos) none pos.line X.env = pure false := by rfl) : PS X (.Expr (.Call (.Attribute (.Name x p1) "extend" apos) [e] [] cpos) pos) (tOS X.K sl E (oExt fe)) :=
  PS.to (ps_expr (pe_bm PySem.F.plainAttrs_list PySem.F.slot_list_extend PySem.F.type_list_extend mt_extend (pe_var hN hv hd hcd) (yaj_cons he yaj_nil hs) hbase hfew hline hs hplain) hsw) fun D σ H ⟨φ0, H0, q, φ, ρ, μ, ds, i, k⟩ => by
  obtain ⟨xs0, hq0, _⟩ := i.ob
  refine ⟨.ref q, i.s0, .inl ⟨rfl, _, SqL.of hq0⟩, φ, ρ, μ, i.rs, ?_⟩
  unfold oExt at k
  cases e1 : fe ρ μ with
  | none => rw [e1] at k; exact k.elim
  | some r =>
    cases r with
    | ex y μ2 => rw [e1] at k; unfold xCons; rw [e1]; exact XP.grow i.g k
    | ok w μ2 =>
      rw [e1] at k
      unfold xCons xNil
      rw [e1]
      simp only [bd] at k ⊢
      intro φ2 vs H2 g2 c2 r2
      obtain ⟨v, rfl, r3⟩ := rvs1 r2
      have i2 := i.step g2 c2
      split at k
      · rename_i es
        cases hlt : decide (ds.length + es.length < 900) with
        | false => rw [hlt] at k; exact k.elim
        | true =>
          rw [hlt] at k
          have hlt := of_decide_eq_true hlt
          obtain ⟨xs, hq, hxs⟩ := i2.ob
          obtain ⟨b, zs, rfl, _, hb, hzs⟩ := r3
          refine ⟨q, b, xs, zs, rfl, rfl, hq, hb, by rw [← hxs.len, ← hzs.len]; exact size_ok (by omega), ?_⟩
          exact k φ2 σ _ (g2.w.trans (GrowW.at_q i2.m1 hq)) (i2.put (DaAll.append hxs hzs))
      · exact k.elim
noncomputable def oForL (j : Nat) (g : OX) : List PyData → OX
  | [], nss, ρ, μ => some (.ok (nss, ρ) μ)
  | d :: ds, nss, ρ, μ => bd (g nss (ρ.set j (some (.d d))) μ) fun r μ1 => oForL j g ds r.1 r.2 μ1
noncomputable def oFor (fi : IF) (j : Nat) (g : OX) : OX := fun nss ρ μ => match fi ρ μ with
  | some (ds, none, μ1) => oForL j g ds nss ρ μ1
  | _ => none
theorem o_for {x : Str} {j : Nat} {fi : IF} {g : OX} (hp : PassesOwn (model X.prog X.w) X.A X.env X.xe) (hc : X.calm = true) (hi : PI X (.Name x p1) iter (VL.tI X.K fi)) (hN : X.N.Nodup) (hj : j ≠ sl) (hb : PSs X body (tOS X.K sl E g)) (hix : X.N[j]? = some x := by rfl) (hx : Loc X.env.scope x := by first | exact Or.inl rfl | exact Or.inr rfl)
    (hf : X.fn x = true ∨ X.env.scope.names.lookup x = some .local := by first | exact .inl rfl | exact .inr rfl) (hs : ∀ x, foldedSetIterable iter X.env x = pure x := by intro _; rfl) : PS X (.For (.Name x p1) iter body [] pos) (tOS X.K sl E (oFor fi j g)) :=
  PS.to (ps_for hp hc hi (pg_name hN hix hx hf) hb hs) fun D σ H ⟨φ0, H0, q, φ, ρ, μ, nss, i, k⟩ => by
  unfold oFor at k
  split at k
  · rename_i ds μ1 e1
    refine ⟨φ, ρ, μ, ds, none, μ1, i.rs, e1, fun φ1 J H1 g1 c1 wk => ?_⟩
    have i1 := i.step g1 c1
    have k1 := OP.grow g1.w k
    refine ⟨fun n m σ' H' => m = ds.length - n ∧ ∃ φ2 ρ2 μ2 nss2, GrowW φ1 φ2 H1 H' ∧ OS X.K sl φ0 H0 q φ2 σ' H' ρ2 μ2 nss2 ∧ OP X.K sl φ0 H0 q φ2 H' E D (oForL j g (ds.drop n) nss2 ρ2 μ2), ⟨_, rfl, φ1, ρ, μ1, nss, (Grow.refl _ _).w, i1, k1⟩, ?_⟩
    rintro n m σ2 H2 ⟨rfl, φ2, ρ2, μ2, nss2, g2, i2, k2⟩
    cases hdi : ds.drop n with
    | nil =>
      rw [hdi] at k2
      have hl : ds.length ≤ n := List.drop_eq_nil_iff.mp hdi
      exact .inl ⟨(wk φ2 H2 μ2 g2 i2.rs.c (fun _ h => nomatch h) n).2 hl, k2 φ2 σ2 H2 (Grow.refl _ _).w i2⟩
    | cons d r =>
      rw [hdi] at k2
      have hil : n < ds.length := by
        by_cases z : n < ds.length
        · exact z
        · rw [List.drop_eq_nil_iff.mpr (by omega)] at hdi; cases hdi
      have hdg : ds[n]? = some d := by
        have := List.getElem?_drop (xs := ds) (i := n) (j := 0)
        rw [hdi] at this
        simpa using this.symm
      have hdr : ds.drop (n + 1) = r := by
        have : (ds.drop n).drop 1 = ds.drop (n + 1) := by rw [List.drop_drop]
        rw [← this, hdi]; rfl
      obtain ⟨go, hy⟩ := (wk φ2 H2 μ2 g2 i2.rs.c (fun _ h => nomatch h) n).1 d hdg
      refine .inr ⟨go, fun σ' H' => ∃ φ3 ρ3 μ3 nss3, GrowW φ1 φ3 H1 H' ∧ OS X.K sl φ0 H0 q φ3 σ' H' ρ3 μ3 nss3 ∧ OP X.K sl φ0 H0 q φ3 H' E D (oForL j g (ds.drop (n + 1)) nss3 ρ3 μ3), fun σ' H' hN => ⟨ds.length - (n + 1), by omega, rfl, hN⟩, fun x H3 hyl => ?_⟩
      obtain ⟨g3, c3, hx⟩ := hy x H3 hyl
      have i3 := i2.step g3 c3
      refine ⟨φ0, H0, q, φ2, ρ2.set j (some (.d d)), μ2, nss2, ⟨i3.g, i3.hx, i3.m1, i3.m2, i3.rs.put hx, by rw [List.getElem?_set_ne hj]; exact i3.s0, i3.ob⟩, ?_⟩
      have k3 := OP.grow g3.w k2
      rw [hdr]
      exact RsP.bd k3 fun r' μ1 _ k4 φ' σ' H' g' i' => ⟨φ', r'.2, μ1, r'.1, (g2.trans g3.w).trans g', i', OP.grow g' k4⟩
  · exact k.elim
end
section
variable {X : Cx} {sl co : Nat} {E : XK} {pos pos' pos2 p1 p2 apos cpos lp : Pos} {st : Stmt} {z y : Str}
theorem RV.less {K : PySem.W.Frag} {φ φ' : Ph} {H : Hp} (h2 : φ.2 = φ'.2) (hs : ∀ a ∈ φ.av, a ∈ φ'.av) : ∀ (w : Vw) (v : V), RV K φ' H w v → RV K φ H w v
  | .d p, v, h => Da.weak hs p v h
  | .loc n, v, ⟨a, e, h⟩ => ⟨a, by rw [h2]; exact e, h⟩
  | .kl ns, v, ⟨a, e, h⟩ => ⟨a, e, by
    rcases h with h | ⟨hn, h⟩ | h
    · exact .inl h
    · exact .inr (.inl ⟨fun z => hn (hs a z), h⟩)
    · exact .inr (.inr h)⟩
  | .rg lo hi, v, h => h
/-- x = []; ..; y.append(x) -/
noncomputable def yOwnB (sl co : Nat) (g : OX) : SX := fun ρ μ => bif emptyAt ρ sl then bd (g [] ρ μ) fun r μ1 => (match r.2[co]? with
  | some (some (.loc n)) => (match μ1[n]? with
    | some ds => bif decide (ds.length < 900) then some (.ok (.nx r.2) (μ1.set n (ds ++ [.list r.1]))) else none
    | none => none)
  | _ => none) else none
theorem o_block {g : OX} (hN : X.N.Nodup) (h2 : PS X st (tOS X.K sl E g)) (hi : X.N[sl]? = some z := by rfl) (hx : Loc X.env.scope z := by first | exact Or.inl rfl | exact Or.inr rfl) (hs0 : swapsWith (.List [] lp) (some (.Name z pos')) pos.line X.env = pure false := by rfl)
    (hf : X.fn z = true ∨ X.env.scope.names.lookup z = some .local := by first | exact .inl rfl | exact .inr rfl) (hco : X.N[co]? = some y := by rfl) (hv : Vis X.env.scope z := by first | exact Or.inl rfl | exact Or.inr (Or.inl rfl) | exact Or.inr (Or.inr rfl)) (hvy : Vis X.env.scope y := by first | exact Or.inl rfl | exact Or.inr (Or.inl rfl) | exact Or.inr (Or.inr rfl))
    (hd : (z == ("__debug__" : Str)) = false := by decide) (hcd : (z == ("__classdict__" : Str)) = false := by decide) (hdy : (y == ("__debug__" : Str)) = false := by decide) (hcdy : (y == ("__classdict__" : Str)) = false := by decide)
    (hbase : attributeBase (.Name y p1) "append" X.env (eval (.Name y p1) X.env) = eval (.Name y p1) X.env := by rfl)
    (hfew : ((backTo cpos (starEach [.Name z p2] X.env)).all (fun x => !x.1) && (backToKw cpos (keywordEach [] X.env)).all (fun x => x.1.isSome) && decide (([.Name z p2] : List Expr).length + ([] : List Keyword).length + (if ([] : List Keyword).isEmpty then 0 else 1) < 30)) = true := by rfl)
    (hline : (apos.endLine == cpos.line) = true := by rfl) (hs : starEach [.Name z p2] X.env = (false, eval (.Name z p2) X.env) :: starEach [] X.env := by rfl) (hplain : (backTo cpos (starEach [] X.env)).any (·.1) = false := by rfl)
    (hsw : swapsWith (.Call (.Attribute (.Name y p1) "append" apos) [.Name z p2] [] cpos) none pos2.line X.env = pure false := by rfl) :
    PSs X [.Assign [.Name z pos'] (.List [] lp) pos, st, .Expr (.Call (.Attribute (.Name y p1) "append" apos) [.Name z p2] [] cpos) pos2] (tXS X.K (wf E) (yOwnB sl co g)) :=
  PSs.to (pss_cons (ps_set hN hi hx (pe_lst pa_nil) hs0 hf) (pss_cons h2 (pss_one (ps_expr (pe_bm PySem.F.plainAttrs_list PySem.F.slot_list_append PySem.F.type_list_append mt_append (pe_var hco hvy hdy hcdy) (pa_cons (pe_var hi hv hd hcd) pa_nil hs) hbase hfew hline hs hplain) hsw)))) fun D σ H ⟨φ, ρ, μ, rs, k⟩ => by
  unfold yOwnB at k
  cases hem : emptyAt ρ sl with
  | false => rw [hem] at k; exact k.elim
  | true =>
    rw [hem, cond_true] at k
    have hρ : ρ[sl]? = some none := by
      unfold emptyAt at hem
      split at hem
      · assumption
      · cases hem
    refine ⟨Nat.zero_le _, fun q hq => ?_⟩
    have c1 := rs.c
    have gA : Grow φ (φ.1 ++ [q], φ.2) H (upd H q (.lst [])) := Grow.apart hq
    have cA := VY.Cells.apart c1 (o := .lst []) hq
    have r2 := rs.step gA.w cA
    have n2 : q ∉ φ.2 := fun z => by
      obtain ⟨xs, hx⟩ := c1.mem z
      rw [hq] at hx; cases hx
    have n1 : q ∉ φ.1 := fun z => c1.tr q z hq
    refine ⟨φ, H, q, (φ.1 ++ [q], φ.2), ρ, μ, [], ⟨gA, hq, by simp, n2, ⟨cA, by rw [List.length_set]; exact r2.len, fun i w h => ?_⟩, ?_, [], upd_same, rfl⟩, ?_⟩
    · by_cases hi : sl = i
      · subst hi; rw [hρ] at h; cases h
      · rw [List.getElem?_set_ne hi]; exact r2.at_ i w h
    · have hl : sl < σ.length := by rw [rs.len]; exact (List.getElem?_eq_some_iff.mp hρ).1
      rw [List.getElem?_set_self hl]
    · cases e2 : g [] ρ μ with
      | none => rw [e2] at k; exact k.elim
      | some r =>
        rw [e2] at k
        cases r with
        | ex y μ3 => exact k
        | ok r μ1 =>
          intro φ' σ' H' gW i'
          simp only [bd] at k
          split at k
          · rename_i n hn
            split at k
            · rename_i ds hds
              cases hlt : decide (ds.length < 900) with
              | false => rw [hlt] at k; exact k.elim
              | true =>
                rw [hlt, cond_true] at k
                have hlt := of_decide_eq_true hlt
                obtain ⟨v, hv1, a, ha, hva⟩ := i'.rs.at_ co _ hn
                subst hva
                obtain ⟨ys, hy, hys⟩ := i'.rs.c.at_ n a ds ha hds
                obtain ⟨xs, hq', hxs⟩ := i'.ob
                refine ⟨.ref a, hv1, .inl ⟨rfl, ys, SqL.of hy⟩, .ref q, i'.s0, a, ys, .ref q, rfl, rfl, hy, by rw [← hys.len]; exact size_lt (by omega), ?_⟩
                have hsub : ∀ a ∈ Ph.av (φ.1, φ'.2), a ∈ φ'.av := fun a ha => by
                  rcases List.mem_append.mp ha with ha | ha
                  · obtain ⟨χ, e, _⟩ := i'.g.fst
                    exact List.mem_append_left _ (by rw [e]; exact List.mem_append_left _ ha)
                  · exact List.mem_append_right _ ha
                have hout : q ∉ Ph.av (φ.1, φ'.2) := fun z => by
                  rcases List.mem_append.mp z with z | z
                  · exact n1 z
                  · exact i'.m2 z
                have c2 : Cells X.K (φ.1, φ'.2) H' μ1 := ⟨i'.rs.c.nd, i'.rs.c.len, fun n a ds h1 h2 => by
                  obtain ⟨xs, h3, h4⟩ := i'.rs.c.at_ n a ds h1 h2
                  exact ⟨xs, h3, DaAll.weak hsub _ _ h4⟩, fun a ha z => c1.tr a ha (i'.g.live a z), i'.rs.c.tb⟩
                have rs2 : RS X.K (φ.1, φ'.2) σ' H' r.2 μ1 := ⟨c2, i'.rs.len, fun i w h => let ⟨v, h1, h2⟩ := i'.rs.at_ i w h; ⟨v, h1, RV.less (φ := (φ.1, φ'.2)) (φ' := φ') rfl hsub w v h2⟩⟩
                have gD : Grow φ (φ.1, φ'.2) H H' := ⟨⟨[], by simp, by simp⟩, i'.g.pre, i'.g.ext, i'.g.live⟩
                obtain ⟨g4, c4⟩ := cell_write c2 (show (φ.1, φ'.2).2[n]? = some a from ha) (DaAll.append (DaAll.weak hsub _ _ hys) (show DaAll X.K (Ph.av (φ.1, φ'.2)) H' [.list r.1] [.ref q] from ⟨.ref q, [], rfl, ⟨q, xs, rfl, hout, hq', DaAll.weak hsub _ _ hxs⟩, rfl⟩))
                exact k (φ.1, φ'.2) σ' _ (gD.trans g4) (rs2.step g4.w c4)
            · exact k.elim
          · exact k.elim
end
end VY
end
section
set_option Elab.async false
set_option linter.all false
set_option maxRecDepth 100000
set_option maxHeartbeats 2000000
/-! tuple(zip(a, b)) of two lists -/
namespace VY
open PySem PySem.Spec PyProof.Rows L2 VL
open Sem (wp)
variable [LawTabs]
/-- some new things are laid, nothing else is changed -/
inductive Laid : Hp → Hp → Prop where
  | refl (H : Hp) : Laid H H
  | step {H H1 : Hp} {q : Addr} {o : HO} : Laid H H1 → H1 q = none → Laid H (upd H1 q o)
theorem Laid.grow {φ : Ph} {H H1 : Hp} (l : Laid H H1) : Grow φ φ H H1 := by
  induction l with
  | refl => exact .refl _ _
  | step _ hq ih => exact ih.trans (Grow.laid hq)
theorem Laid.cells {K : PySem.W.Frag} {φ : Ph} {H H1 : Hp} {μ : Mu} (l : Laid H H1) (c : Cells K φ H μ) : Cells K φ H1 μ := by
  induction l with
  | refl => exact c
  | step _ hq ih => exact ih.laid hq
theorem Laid.trans {H H1 H2 : Hp} (l : Laid H H1) (m : Laid H1 H2) : Laid H H2 := by
  induction m with
  | refl => exact l
  | step _ hq ih => exact .step ih hq
theorem Laid.get {H H1 : Hp} (l : Laid H H1) : ∀ a o, H a = some o → H1 a = some o := by
  induction l with
  | refl => exact fun a o h => h
  | step _ hq ih => exact fun a o h => by rw [upd_ne (ne_of_none (ih a o h) hq)]; exact ih a o h
structure ZSt (z TI TO i1 i2 l1 l2 S : Addr) (xs ys : Array Value) (i : Nat) (h : Heap) : Prop where
  tI : IsPair h TI (.ref i1) (.ref i2)
  h1 : h.IsListIter i1 l1 i
  h2 : h.IsListIter i2 l2 i
  l1 : h.IsList l1 xs
  l2 : h.IsList l2 ys
  to : ∃ o, h.get? TO = some o
  zz : (IsZip h z TI TO .none ∧ ∃ a b, IsPair h TO a b) ∨ ∃ T f oT, IsZipHeld h z TI TO T f ∧ h.get? T = some oT ∧ T ≠ z ∧ T ≠ i1 ∧ T ≠ i2 ∧ T ≠ S
section
variable {prog : Program} {w : World} {A : Around} {E : Value → Shared → Prop} {s : Shared} {z TI TO i1 i2 l1 l2 S : Addr} {xs ys : Array Value} {i : Nat} {x y : Value}
theorem ZSt.keep {h h' : Heap} (st : ZSt z TI TO i1 i2 l1 l2 S xs ys i h) (nS : S ∉ [z, TI, TO, i1, i2, l1, l2]) (hk : ∀ b o, b ≠ S → h.get? b = some o → h'.get? b = some o) : ZSt z TI TO i1 i2 l1 l2 S xs ys i h' := by
  simp only [List.mem_cons, List.not_mem_nil, or_false, not_or] at nS
  obtain ⟨dz, dTI, dTO, di1, di2, dl1, dl2⟩ := nS
  refine ⟨hk _ _ (Ne.symm dTI) st.tI, st.h1.at fun o e => hk _ o (Ne.symm di1) e, st.h2.at fun o e => hk _ o (Ne.symm di2) e, st.l1.at fun o e => hk _ o (Ne.symm dl1) e, st.l2.at fun o e => hk _ o (Ne.symm dl2) e, (let ⟨o, e⟩ := st.to; ⟨o, hk _ o (Ne.symm dTO) e⟩), ?_⟩
  rcases st.zz with ⟨hz, a, b, hTO⟩ | ⟨T, f, oT, hz, hT, r1, r2, r3, r4⟩
  · exact .inl ⟨hk _ _ (Ne.symm dz) hz, a, b, hk _ _ (Ne.symm dTO) hTO⟩
  · exact .inr ⟨T, f, oT, hk _ _ (Ne.symm dz) hz, hk _ _ r4 hT, r1, r2, r3, r4⟩
theorem zitem {Q : Option Value → Shared → Prop} (D : ZipApart z TI TO i1 i2 l1 l2) (st : ZSt z TI TO i1 i2 l1 l2 S xs ys i s.heap) (hx : xs[i]? = some x) (hy : ys[i]? = some y) (hS : S < s.heap.objs.size)
    (hQ : ∀ h', ZSt z TI TO i1 i2 l1 l2 S xs ys (i + 1) h' → IsPair h' s.heap.objs.size x y → (∀ b o, b ∉ [z, TO, i1, i2] → s.heap.get? b = some o → h'.get? b = some o) → Q (some (.ref s.heap.objs.size)) { s with heap := h' }) :
    wpAny (model prog w) A (pyNext (.ref z)) Q E s := by
  obtain ⟨hTI, h1, h2, hl1, hl2, ⟨oO, hO⟩, hz⟩ := st
  have lt : ∀ {c o}, s.heap.get? c = some o → s.heap.objs.size ≠ c := fun e => Nat.ne_of_gt (Heap.lt_size e)
  have n1 : s.heap.objs.size ≠ i1 := let ⟨_, e, _⟩ := h1; lt e
  have n2 : s.heap.objs.size ≠ i2 := let ⟨_, e, _⟩ := h2; lt e
  rcases hz with ⟨hz, a, b, hTO⟩ | ⟨T, f, oT, hz, hT, r1, r2, r3, r4⟩
  · refine wpAny_pyNext_zip_item D hz hTI hTO h1 h2 hl1 hl2 hx hy fun h' a1 a2 a3 a4 a5 a6 hk => ?_
    exact hQ h'
      ⟨hk _ _ D.TIz D.TITO D.TIi1 D.TIi2 hTI, a3, a4, hl1.at fun o e => hk _ o D.l1z D.l1TO D.l1i1 D.l1i2 e, hl2.at fun o e => hk _ o D.l2z D.l2TO D.l2i1 D.l2i2 e, ⟨_, a2⟩,
        .inr ⟨s.heap.objs.size, false, _, a1, a5, lt hz, n1, n2, Nat.ne_of_gt hS⟩⟩ a5
      fun c o hc e => hk c o (fun x => hc (by simp [x])) (fun x => hc (by simp [x])) (fun x => hc (by simp [x])) (fun x => hc (by simp [x])) e
  · refine wpAny_pyNext_zip_item_held D hz hT hTI h1 h2 hl1 hl2 hx hy fun h' a1 a3 a4 a5 a6 hk => ?_
    exact hQ h'
      ⟨hk _ _ D.TIz D.TIi1 D.TIi2 hTI, a3, a4, hl1.at fun o e => hk _ o D.l1z D.l1i1 D.l1i2 e, hl2.at fun o e => hk _ o D.l2z D.l2i1 D.l2i2 e, ⟨_, hk _ _ D.TOz D.TOi1 D.TOi2 hO⟩,
        .inr ⟨T, true, oT, a1, hk _ _ r1 r2 r3 hT, r1, r2, r3, r4⟩⟩ a5
      fun c o hc e => hk c o (fun x => hc (by simp [x])) (fun x => hc (by simp [x])) (fun x => hc (by simp [x])) e
theorem zdone {Q : Option Value → Shared → Prop} (hh : A.handled = none) (D : ZipApart z TI TO i1 i2 l1 l2) (st : ZSt z TI TO i1 i2 l1 l2 S xs ys (min xs.size ys.size) s.heap)
    (hQ : ∀ h', (∀ b o, b ∉ [z, TO, i1, i2] → s.heap.get? b = some o → h'.get? b = some o) → Q none { s with heap := h' }) :
    wpAny (model prog w) A (pyNext (.ref z)) Q E s := by
  obtain ⟨hTI, h1, h2, hl1, hl2, ⟨oO, hO⟩, hz⟩ := st
  have hend : xs[min xs.size ys.size]? = none ∨ ys[min xs.size ys.size]? = none := by
    rcases Nat.le_total xs.size ys.size with h | h
    · exact .inl (Array.getElem?_eq_none (by rw [Nat.min_eq_left h]; exact Nat.le_refl _))
    · exact .inr (Array.getElem?_eq_none (by rw [Nat.min_eq_right h]; exact Nat.le_refl _))
  rcases hz with ⟨hz, a, b, hTO⟩ | ⟨T, f, oT, hz, hT, r1, r2, r3, r4⟩
  · exact wpAny_pyNext_zip_end hh D hz hTI hTO h1 h2 hl1 hl2 hend fun h' hk => hQ h' fun c o hc e => hk c o (fun x => hc (by simp [x])) (fun x => hc (by simp [x])) (fun x => hc (by simp [x])) (fun x => hc (by simp [x])) e
  · exact wpAny_pyNext_zip_end_held hh D hz hT hTI h1 h2 hl1 hl2 hend fun h' hk => hQ h' fun c o hc e => hk c o (fun x => hc (by simp [x])) (fun x => hc (by simp [x])) (fun x => hc (by simp [x])) e
end
def PairsOf (H : Hp) (vx vy zs : List V) (i : Nat) : Prop := zs.length = i ∧ ∀ (j : Nat) (v : V), zs[j]? = some v → ∃ (T : Addr) (x y : V), v = .ref T ∧ H T = some (.tup [x, y]) ∧ vx[j]? = some x ∧ vy[j]? = some y
theorem PairsOf.push {H : Hp} {vx vy zs : List V} {i : Nat} {T : Addr} {x y : V} (p : PairsOf H vx vy zs i) (hT : H T = none) (hx : vx[i]? = some x) (hy : vy[i]? = some y) : PairsOf (upd H T (.tup [x, y])) vx vy (zs ++ [V.ref T]) (i + 1) := by
  refine ⟨by simp [p.1], fun j v h => ?_⟩
  by_cases hj : j < zs.length
  · rw [List.getElem?_append_left hj] at h
    obtain ⟨T', x', y', e, h1, h2, h3⟩ := p.2 j v h
    exact ⟨T', x', y', e, by rw [upd_ne (ne_of_none h1 hT)]; exact h1, h2, h3⟩
  · have hj2 : j = i := by
      have := (List.getElem?_eq_some_iff.mp h).1
      rw [List.length_append, List.length_singleton] at this
      rw [← p.1]; omega
    subst hj2
    rw [← p.1, List.getElem?_append_right (Nat.le_refl _), Nat.sub_self] at h
    cases h
    exact ⟨T, x, y, rfl, upd_same, hx, hy⟩
theorem vals_snoc : ∀ {xs : List V} {us : List Value} {x : V} {u : Value}, Vals xs us → RelV x u → Vals (xs ++ [x]) (us ++ [u])
  | [], [], _, _, .nil, r => .cons r .nil
  | _ :: _, _ :: _, _, _, .cons a b, r => .cons a (vals_snoc b r)
theorem fpOk_laid {X : Cx} {pins : List (Addr × Obj)} {H : Hp} {b q : Addr} {o : HO} (f : FpOk X pins H b) (hb : b ≠ q) : FpOk X pins (upd H q o) b := ⟨by rw [upd_ne hb]; exact f.1, f.2⟩
section
variable {X : Cx} {pins : List (Addr × Obj)} {σ : L2.St} {z TI TO i1 i2 l1 l2 S : Addr} {xs ys : Array Value} {vx vy : List V} {res : Value} {R : Result → Shared → Prop}
theorem loopZ {A' : Around} (hh : A'.handled = none) (D : ZipApart z TI TO i1 i2 l1 l2) (nS : S ∉ [z, TI, TO, i1, i2, l1, l2]) (hx : Vals vx xs.toList) (hy : Vals vy ys.toList) (hn : min xs.size ys.size ≤ sizeLine) :
    ∀ (k i : Nat) (s : Shared) (H : Hp) (acc : Array Value) (c : Nat) (zs : List V), min xs.size ys.size - i = k → i ≤ min xs.size ys.size → Inv X pins σ H s → (∀ b ∈ [S, z, TI, TO, i1, i2], FpOk X pins H b) → ZSt z TI TO i1 i2 l1 l2 S xs ys i s.heap →
      s.heap.get? S = some { cls := .type "list", dict := none, data := .seq acc c, slots := #[] } → Vals zs acc.toList → PairsOf H vx vy zs i →
      (∀ s' H' acc' c' zs', Inv X pins σ H' s' → Laid H H' → s'.heap.get? S = some { cls := .type "list", dict := none, data := .seq acc' c', slots := #[] } → Vals zs' acc'.toList → PairsOf H' vx vy zs' (min xs.size ys.size) → R (.ok (.ret res)) s') →
      codeAny (model X.prog X.w) A' (.builtin "list.extend.loop" ⟨[.ref S, .ref z, res], []⟩) R s := by
  have nS' := nS
  simp only [List.mem_cons, List.not_mem_nil, or_false, not_or] at nS'
  obtain ⟨dz, dTI, dTO, di1, di2, dl1, dl2⟩ := nS'
  intro k
  induction k with
  | zero =>
    intro i s H acc c zs hk hi I hf st hS hv hp hR
    have hin : i = min xs.size ys.size := by omega
    subst hin
    refine codeAny_builtin F.entry_extend_loop ?_
    rw [Around.under_plainId F.plain_extend_loop _]
    show wpAny _ A'.in1 (pyNext (.ref z) >>= _) _ _ s
    refine wpAny_bind (zdone hh D st fun h' hk => ?_)
    refine wpAny_pure (hR _ H acc c zs (I.turnedL (t' := s.toks) (ch := [z, TO, i1, i2]) hk fun b hb => hf b (by
      simp only [List.mem_cons, List.not_mem_nil, or_false] at hb ⊢
      rcases hb with e | e | e | e <;> simp [e])) (.refl _) (hk S _ (by simp [dz, dTO, di1, di2]) hS) hv hp)
  | succ k ih =>
    intro i s H acc c zs hk hi I hf st hS hv hp hR
    have hlt : i < min xs.size ys.size := by omega
    have hix : i < xs.size := Nat.lt_of_lt_of_le hlt (Nat.min_le_left ..)
    have hiy : i < ys.size := Nat.lt_of_lt_of_le hlt (Nat.min_le_right ..)
    refine codeAny_builtin F.entry_extend_loop ?_
    rw [Around.under_plainId F.plain_extend_loop _]
    show wpAny _ A'.in1 (pyNext (.ref z) >>= _) _ _ s
    have hSl : S < s.heap.objs.size := Heap.lt_size hS
    refine wpAny_bind (zitem D st (Array.getElem?_eq_getElem hix) (Array.getElem?_eq_getElem hiy) hSl fun h' st' hT hk' => ?_)
    have hS' := hk' S _ (by simp [dz, dTO, di1, di2]) hS
    have lxx := hx.length
    have lyy := hy.length
    obtain ⟨x, ex, rx⟩ : ∃ x, vx[i]? = some x ∧ RelV x xs[i] := by
      have hl : i < vx.length := by rw [lxx]; simpa using hix
      refine ⟨vx[i], List.getElem?_eq_getElem hl, ?_⟩
      obtain ⟨u, hu, ru⟩ := hx.get (List.getElem?_eq_getElem hl)
      have : u = xs[i] := by
        have h2 : xs.toList[i]? = some xs[i] := by simp
        rw [h2] at hu; cases hu; rfl
      rw [← this]; exact ru
    obtain ⟨y, ey, ry⟩ : ∃ y, vy[i]? = some y ∧ RelV y ys[i] := by
      have hl : i < vy.length := by rw [lyy]; simpa using hiy
      refine ⟨vy[i], List.getElem?_eq_getElem hl, ?_⟩
      obtain ⟨u, hu, ru⟩ := hy.get (List.getElem?_eq_getElem hl)
      have : u = ys[i] := by
        have h2 : ys.toList[i]? = some ys[i] := by simp
        rw [h2] at hu; cases hu; rfl
      rw [← this]; exact ru
    have new : ObjOk X.prog X.w (upd H s.heap.objs.size (.tup [x, y])) h' s.heap.objs.size (.tup [x, y]) := ⟨by show 2 ≤ sizeLine; decide, [xs[i], ys[i]], .cons rx (.cons ry .nil), ⟨_, hT, rfl, _, rfl⟩⟩
    have hf2 : ∀ b ∈ [z, TO, i1, i2], FpOk X pins H b := fun b hb => hf b (by
      simp only [List.mem_cons, List.not_mem_nil, or_false] at hb ⊢
      rcases hb with e | e | e | e <;> simp [e])
    have I1 : Inv X pins σ (upd H s.heap.objs.size (.tup [x, y])) { s with heap := h', toks := s.toks } := I.turnedNew (t' := s.toks) (ch := [z, TO, i1, i2]) hk' hf2 (Nat.le_refl _) new
    have hnone : H s.heap.objs.size = none := I.hok.fresh (Nat.le_refl _)
    have lts : ∀ b ∈ [S, z, TI, TO, i1, i2], ∃ o, s.heap.get? b = some o := fun b hb => by
      simp only [List.mem_cons, List.not_mem_nil, or_false] at hb
      obtain ⟨_, e1, _⟩ := st.h1
      obtain ⟨_, e2, _⟩ := st.h2
      have hz : ∃ o, s.heap.get? z = some o := by rcases st.zz with ⟨hz, _⟩ | ⟨_, _, _, hz, _⟩ <;> exact ⟨_, hz⟩
      rcases hb with e | e | e | e | e | e
      · rw [e]; exact ⟨_, hS⟩
      · rw [e]; exact hz
      · rw [e]; exact ⟨_, st.tI⟩
      · rw [e]; exact st.to
      · rw [e]; exact ⟨_, e1⟩
      · rw [e]; exact ⟨_, e2⟩
    have hf3 : ∀ b ∈ [S, z, TI, TO, i1, i2], FpOk X pins (upd H s.heap.objs.size (.tup [x, y])) b := fun b hb => fpOk_laid (hf b hb) (by obtain ⟨o, e⟩ := lts b hb; exact Nat.ne_of_lt (Heap.lt_size e))
    have hzl : zs.length = acc.size := by rw [hv.length]; simp
    show wpAny _ A'.in1 (updateSeq S (·.push (.ref s.heap.objs.size)) >>= _) _ _ _
    refine wpAny_bind ?_
    refine wpAny_updateSeq hS' rfl (wpAny_pure ⟨plainId_quiet F.plain_extend_loop _, ih (i + 1) _ (upd H s.heap.objs.size (.tup [x, y])) (acc.push (.ref s.heap.objs.size)) _ (zs ++ [.ref s.heap.objs.size]) (by omega) hlt
      (I1.turnedL (t' := s.toks) (ch := [S]) (fun b o hb e => (Heap.get?_update_other _ _ (fun h : S = b => hb (by simp [h]))).trans e) fun b hb => hf3 b (by simp only [List.mem_cons, List.not_mem_nil, or_false] at hb; simp [hb])) hf3
      (st'.keep nS fun b o hb e => (Heap.get?_update_other _ _ (Ne.symm hb)).trans e) (Heap.get?_update_self _ hS' rfl) (by rw [Array.toList_push]; exact vals_snoc hv rfl) (hp.push hnone ex ey) fun s' H' acc' c' zs' I' l' hS'' hv' hp' => ?_⟩)
      (by have := hp.1; omega) (by show (acc.push _).size ≤ sizeLine + 1; have := hp.1; rw [Array.size_push]; omega)
    exact hR s' H' acc' c' zs' I' ((Laid.step (.refl _) hnone).trans l') hS'' hv' hp'
theorem zip_nolen : typeLookup (.type "zip") "__len__" = pure none := by rw [typeLookup_type, builtinLookup_eq_fast]; kernel_rfl
theorem zip_nohint : typeLookup (.type "zip") "__length_hint__" = pure none := by rw [typeLookup_type, builtinLookup_eq_fast]; kernel_rfl
theorem collectZ {A' : Around} {E : Value → Shared → Prop} {Q : List Value → Shared → Prop} {s : Shared} {H : Hp} (hh : A'.handled = none) (D : ZipApart z TI TO i1 i2 l1 l2) (hx : Vals vx xs.toList) (hy : Vals vy ys.toList) (hn : min xs.size ys.size ≤ sizeLine)
    (I : Inv X pins σ H s) (hf : ∀ b ∈ [z, TI, TO, i1, i2], FpOk X pins H b) (hlt : ∀ b ∈ [z, TI, TO, i1, i2, l1, l2], b < s.heap.objs.size) (hz : IsZip s.heap z TI TO .none) (hTI : IsPair s.heap TI (.ref i1) (.ref i2)) (hTO : ∃ a b, IsPair s.heap TO a b)
    (h1 : s.heap.IsListIter i1 l1 0) (h2 : s.heap.IsListIter i2 l2 0) (hl1 : s.heap.IsList l1 xs) (hl2 : s.heap.IsList l2 ys)
    (hQ : ∀ s' H' us zs, Inv X pins σ H' s' → Laid H H' → Vals zs us → PairsOf H' vx vy zs (min xs.size ys.size) → Q us s') : wpAny (model X.prog X.w) A' (collect (.ref z)) Q E s := by
  have hS0 : s.heap.objs.size ∉ [z, TI, TO, i1, i2, l1, l2] := fun hm => Nat.lt_irrefl _ (hlt _ hm)
  have hSI : s.heap.objs.size ≠ z := fun e => hS0 (by rw [e]; simp)
  unfold collect
  refine wpAny_bind (wpAny_runValue (codeAny_builtin F.entry_proto_collect ?_))
  rw [Around.under_plainId F.plain_proto_collect _]
  show wpAny _ A'.in1 (newList [] >>= fun l => again (.builtin "list.__iadd__" ⟨[l, .ref z], []⟩)) _ _ s
  refine wpAny_bind (wpAny_newObj_type ?_)
  refine wpAny_pure ⟨plainId_quiet F.plain_list_iadd _, codeAny_builtin F.entry_list_iadd ?_⟩
  rw [Around.under_plainId F.plain_list_iadd _]
  have hz1 : IsZip (s.heap.push { cls := .type "list", data := .seq ([] : List Value).toArray }) z TI TO .none := Heap.get?_push_of_some _ hz
  have hT : ∀ tk, ({ s with heap := s.heap.push { cls := .type "list", data := .seq ([] : List Value).toArray }, toks := tk } : Shared).TypeIs (.ref z) "zip" := fun tk => ⟨_, hz1, rfl⟩
  show wpAny _ A'.in1 (Builtin.List.listExtendWith (.ref s.heap.objs.size) (.ref z) (.ref s.heap.objs.size)) _ _ _
  unfold Builtin.List.listExtendWith
  refine wpAny_bind (wpAny_typeOf (hT _) ?_)
  have h1' : Builtin.List.listSameRef (.ref s.heap.objs.size) (.ref z) = false := by simp [Builtin.List.listSameRef, hSI]
  have h2' : (Value.type "zip" == Value.type "list") = false := by decide
  have h3' : (Value.type "zip" == Value.type "tuple") = false := by decide
  simp only [h1', h2', h3', Bool.or_false, Bool.false_eq_true, if_false]
  refine wpAny_bind (wpAny_pyIter_zip hz1 ?_)
  refine wpAny_bind (wpAny_holding ?_)
  unfold Builtin.List.listLengthHint
  refine wpAny_bind (wpAny_specialOf (hT _) zip_nolen ?_)
  show wpAny _ A'.in1 (specialOf (Value.ref z) (Str.ofString "__length_hint__") >>= _) _ _ _
  refine wpAny_bind (wpAny_specialOf (hT _) zip_nohint ?_)
  refine wpAny_pure ?_
  show wpAny _ A'.in1 (rule "list.extend.makes-room" >>= fun _ => Builtin.List.listTouch (.ref s.heap.objs.size) >>= fun _ =>
    again (.builtin "list.extend.loop" ⟨[.ref s.heap.objs.size, .ref z, .ref s.heap.objs.size], []⟩)) _ _ _
  refine wpAny_bind (wpAny_rule ?_)
  have hS₁ : (s.heap.push { cls := .type "list", data := .seq ([] : List Value).toArray }).get? s.heap.objs.size = some { cls := .type "list", data := .seq ([] : List Value).toArray } := Heap.get?_push_size _ rfl
  refine wpAny_bind ?_
  show wpAny _ A'.in1 (updateSeq s.heap.objs.size (·.push .none) >>= fun _ => updateSeq s.heap.objs.size (·.pop)) _ _ _
  refine wpAny_bind (wpAny_updateSeq hS₁ rfl ?_)
  have hS₂ := Heap.get?_update_self (Obj.mapSeq (·.push Value.none)) hS₁ rfl
  refine wpAny_updateSeq hS₂ rfl ?_
  have hS₃ := Heap.get?_update_self (Obj.mapSeq (·.pop)) hS₂ rfl
  have oth : ∀ b o, s.heap.get? b = some o →
      (((s.heap.push { cls := .type "list", data := .seq ([] : List Value).toArray }).update s.heap.objs.size (Obj.mapSeq (·.push Value.none))).update s.heap.objs.size (Obj.mapSeq (·.pop))).get? b = some o :=
    fun b o e => (Heap.get?_update_other _ _ (Nat.ne_of_gt (Heap.lt_size e))).trans ((Heap.get?_update_other _ _ (Nat.ne_of_gt (Heap.lt_size e))).trans (Heap.get?_push_of_some _ e))
  have nS : H s.heap.objs.size = none := I.hok.fresh (Nat.le_refl _)
  have I1 : Inv X pins σ H { s with heap := ((s.heap.push { cls := .type "list", data := .seq ([] : List Value).toArray }).update s.heap.objs.size (Obj.mapSeq (·.push Value.none))).update s.heap.objs.size (Obj.mapSeq (·.pop)), toks := s.toks } := I.kept (t' := s.toks) oth
  have hf1 : ∀ b ∈ [s.heap.objs.size, z, TI, TO, i1, i2], FpOk X pins H b := fun b hb => by
    rcases List.mem_cons.mp hb with e | hb
    · rw [e]; exact I.fpOk (Nat.le_refl _) nS
    · exact hf b hb
  obtain ⟨a, b, hTO⟩ := hTO
  refine wpAny_pure ⟨plainId_quiet F.plain_extend_loop _, loopZ hh D hS0 hx hy hn (min xs.size ys.size) 0 _ H _ _ [] (by omega) (Nat.zero_le _) I1 hf1
    ⟨oth _ _ hTI, h1.at fun o e => oth _ o e, h2.at fun o e => oth _ o e, hl1.at fun o e => oth _ o e, hl2.at fun o e => oth _ o e, ⟨_, oth _ _ hTO⟩, .inl ⟨oth _ _ hz, a, b, oth _ _ hTO⟩⟩ hS₃ .nil ⟨rfl, fun j v h => by simp at h⟩ fun s' H' acc' c' zs' I' l' hS' hv' hp' => ?_⟩
  show wpAny _ A' (load s.heap.objs.size >>= _) _ _ s'
  refine wpAny_bind (wpAny_load hS' ?_)
  exact wpAny_pure (hQ s' H' acc'.toList zs' I' l' hv' hp')
theorem call_tuple_zip {E : Value → Shared → Prop} {Q : Value → Shared → Prop} {s : Shared} {H : Hp} (hh : X.A.in1.handled = none) (D : ZipApart z TI TO i1 i2 l1 l2) (hx : Vals vx xs.toList) (hy : Vals vy ys.toList) (hn : min xs.size ys.size ≤ sizeLine)
    (I : Inv X pins σ H s) (hf : ∀ b ∈ [z, TI, TO, i1, i2], FpOk X pins H b) (hlt : ∀ b ∈ [z, TI, TO, i1, i2, l1, l2], b < s.heap.objs.size) (hz : IsZip s.heap z TI TO .none) (hTI : IsPair s.heap TI (.ref i1) (.ref i2)) (hTO : ∃ a b, IsPair s.heap TO a b)
    (h1 : s.heap.IsListIter i1 l1 0) (h2 : s.heap.IsListIter i2 l2 0) (hl1 : s.heap.IsList l1 xs) (hl2 : s.heap.IsList l2 ys)
    (hQ : ∀ s' H' us zs, Inv X pins σ H' s' → Laid H H' → Vals zs us → PairsOf H' vx vy zs (min xs.size ys.size) → Q (.ref s'.heap.objs.size) { s' with heap := s'.heap.push { cls := .type "tuple", data := .seq us.toArray } }) :
    wpAny (model X.prog X.w) X.A (call (.type "tuple") [.ref z]) Q E s := by
  refine callType_codes (Q₁ := fun obj s₁ => s₁.TypeIs obj "tuple" ∧ Q obj s₁) F.called_tuple (F.typeCall_tuple_1 _) F.entry_object_init
    (codeAny_of_tree ?_) fun obj s₁ h₁ => ?_
  · show wpAny _ _ (do checkBuiltinCall "tuple.__new__" ⟨[.type "tuple", .ref z], []⟩; again (.builtin "tuple.__new__" ⟨[.type "tuple", .ref z], []⟩)) _ _ s
    refine wpAny_bind (wpAny_of_eq (F.newCall_tuple_1 _) (wpAny_pure ⟨plainId_quiet F.plain_tuple_new _, codeAny_builtin F.entry_tuple_new ?_⟩))
    rw [Around.under_plainId F.plain_tuple_new _]
    have hsub := sub_tuple_self
    have hinit := init_tuple_lookup
    have hmh := madeHere_tuple
    have hTI0 : s.TypeIs (.ref z) "zip" := ⟨_, hz, rfl⟩
    wp_walk using wpAny_typeOf hTI0, collectZ (A' := X.A.in1.in1) (X := X) (pins := pins) (σ := σ) (vx := vx) (vy := vy) (show X.A.in1.in1.handled = none from hh) D hx hy hn I hf hlt hz hTI hTO h1 h2 hl1 hl2
    intro s' H' us zs I' l' hv hp
    show wpAny _ _ (Builtin.Tuple.tupleExact us.toArray >>= fun v => ret v) _ _ _
    unfold Builtin.Tuple.tupleExact
    have hlen : us.length ≤ sizeLine := by rw [← hv.length, hp.1]; exact hn
    refine wpAny_bind (wpAny_newObj_type ?_ (by show us.toArray.size ≤ sizeLine; simpa using hlen))
    refine wpAny_pure ?_
    exact ⟨⟨_, Heap.get?_push_size _ rfl, rfl⟩, hQ s' H' us zs I' l' hv hp⟩
  · exact ⟨h₁.1, F.args_object_init_2 obj _, object_init_meets F.called_tuple.init.lookup F.called_tuple.made (by decide) X.prog X.w _ _ s₁ ⟨h₁.1, rfl, h₁.2⟩⟩
end
end VY
end
section
set_option Elab.async false
set_option linter.all false
set_option maxRecDepth 100000
set_option maxHeartbeats 2000000
namespace VY
open PySem PySem.Spec PyProof.Rows L2 VL
variable [LawTabs]
section
variable {X : Cx} {e e2 : Expr} {p pos p2 pos2 : Pos} {ta : TA} {f g : EX} {W : WX}
def tTupZip (K : PySem.W.Frag) (ta : TA) : TE := fun σ H Q => ta σ H fun vs H1 => ∃ a b xs ys, vs = [.ref a, .ref b] ∧ SqL K H1 a xs ∧ SqL K H1 b ys ∧
  ∀ q H2 zs, Laid H1 H2 → H2 q = none → PairsOf H2 xs ys zs (min xs.length ys.length) → Q (.ref q) (upd H2 q (.tup zs))
theorem pe_tupZip (hc : X.calm = true) (hm : X.mg "tuple" = none) (hm2 : X.mg "zip" = none) (ha : PA X [e, e2] ta) (hg : Gl X "tuple" := by rfl) (hg2 : Gl X "zip" := by rfl)
    (hs : starEach [e, e2] X.env = (false, eval e X.env) :: starEach [e2] X.env := by rfl) (hpl : (backTo pos2 (starEach [e2] X.env)).any (·.1) = false := by rfl)
    (na : starEach [.Call (.Name "zip" p2) [e, e2] [] pos2] X.env = (false, eval (.Call (.Name "zip" p2) [e, e2] [] pos2) X.env) :: starEach [] X.env := by rfl) :
    PE X (.Call (.Name "tuple" p) [.Call (.Name "zip" p2) [e, e2] [] pos2] [] pos) (tTupZip X.K ta) := by
  refine ⟨fun pins s σ H Q I h => ?_⟩
  refine Call_ (ld_blt I hg hm boot_tuple (PyProof.Rows.callWith_type1 (args_cons ?_ na) na))
  refine Call_ (ld_blt I hg2 hm2 boot_zip (PyProof.Rows.callWith_type1 (thn (ha.run pos2 pins s σ H _ I h) fun us s1 ⟨vs, H1, I1, r1, q1⟩ => ?_) hs hpl))
  obtain ⟨a, b, xs, ys, ex, hx, hy, q⟩ := q1
  subst ex
  obtain ⟨u1, u2, rfl, ra, rb⟩ : ∃ u1 u2, us = [u1, u2] ∧ RelV (.ref a) u1 ∧ RelV (.ref b) u2 := by
    cases r1 with
    | cons r rr =>
      cases rr with
      | cons r2 rr2 => cases rr2; exact ⟨_, _, rfl, r, r2⟩
  obtain rfl : u1 = .ref a := ra
  obtain rfl : u2 = .ref b := rb
  obtain ⟨i1, v1, p1, z1⟩ := I1.list hx
  obtain ⟨i2, v2, p2', z2⟩ := I1.list hy
  have lt : ∀ {t : Addr} {its : Array Value}, s1.heap.IsList t its → t < s1.heap.objs.size := fun ⟨_, e, _⟩ => Heap.lt_size e
  have la := lt p1.isList
  have lb := lt p2'.isList
  refine call_zip_2 p1.isList p2'.isList fun h' hz hTI hTO h1 h2 hsz hk => args_nil ?_
  have I2 : Inv X pins σ H1 { s1 with heap := h', toks := s1.toks } := I1.kept (t' := s1.toks) hk
  have l1 : i1.toArray.size = xs.length := by rw [v1.length]; simp
  have l2 : i2.toArray.size = ys.length := by rw [v2.length]; simp
  refine call_tuple_zip (s := { s1 with heap := h' }) (I2.ok.hd hc) (zipApart_new la lb)
    (by simpa using v1) (by simpa using v2) (by rw [l1, l2]; omega) I2 (fun q hq => ?_) (fun q hq => ?_) hz hTI ⟨_, _, hTO⟩ h1 h2 (p1.isList.at fun o e => hk _ o e) (p2'.isList.at fun o e => hk _ o e) fun s' H' us zs I' l' hv hp => ?_
  · have hle : s1.heap.objs.size ≤ q := by
      simp only [List.mem_cons, List.not_mem_nil, or_false] at hq
      rcases hq with r | r | r | r | r <;> rw [r] <;> first | exact Nat.le_refl _ | exact Nat.le_add_right _ _
    exact I1.fpOk hle (I1.hok.fresh hle)
  · show q < h'.objs.size
    rw [hsz]
    simp only [List.mem_cons, List.not_mem_nil, or_false] at hq
    rcases hq with r | r | r | r | r | r | r <;> rw [r] <;> first | exact Nat.lt_add_of_pos_right (by decide) | exact Nat.add_lt_add_left (by decide) _ | exact Nat.lt_of_lt_of_le la (Nat.le_add_right _ _) | exact Nat.lt_of_lt_of_le lb (Nat.le_add_right _ _)
  · rw [l1, l2] at hp
    have hnone : H' s'.heap.objs.size = none := I'.hok.fresh (Nat.le_refl _)
    refine ⟨.ref s'.heap.objs.size, upd H' s'.heap.objs.size (.tup zs), I'.laid (t' := s'.toks) (fun c o e => Heap.get?_push_of_some _ e) (Nat.le_refl _) (show ObjOk X.prog X.w _ _ _ (.tup zs) from ⟨?_, us, hv, IsTup.new _ _⟩), rfl, q _ _ zs l' hnone hp⟩
    rw [hp.1]; omega
def zip2D (xs ys : List PyData) : List PyData := (xs.zip ys).map fun p => .tuple [p.1, p.2]
theorem pairs_da {K : PySem.W.Frag} {A : List Addr} {H : Hp} : ∀ {xs ys : List PyData} {us vs zs : List V}, DaAll K A H xs us → DaAll K A H ys vs → PairsOf H us vs zs (min us.length vs.length) → DaAll K A H (zip2D xs ys) zs
  | [], ys, us, vs, zs, h1, h2, p => by
    have e : us = [] := h1
    subst e
    have : zs = [] := List.length_eq_zero_iff.mp (by rw [p.1]; simp)
    subst this; rfl
  | x :: xs, [], us, vs, zs, h1, h2, p => by
    have e : vs = [] := h2
    subst e
    have : zs = [] := List.length_eq_zero_iff.mp (by rw [p.1]; simp)
    subst this; rfl
  | x :: xs, y :: ys, _, _, zs, ⟨u, us, e1, a1, b1⟩, ⟨v, vs, e2, a2, b2⟩, p => by
    subst e1 e2
    cases zs with
    | nil => have := p.1; simp at this
    | cons w zs =>
      obtain ⟨T, x', y', e3, h3, e4, e5⟩ := p.2 0 w rfl
      cases e4; cases e5
      refine ⟨w, zs, rfl, ⟨T, [u, v], e3, .inl (.inl h3), ⟨u, [v], rfl, a1, v, [], rfl, a2, rfl⟩⟩, pairs_da b1 b2 ⟨by have := p.1; simp at this; omega, fun j z h => ?_⟩⟩
      exact p.2 (j + 1) z h
@[simp] def eTupZip (f g : EF) (ρ : Rho) (μ : Mu) : Option (Vw × Mu) := match f ρ μ with
  | some (.d (.list xs), μ1) => (match g ρ μ1 with
    | some (.d (.list ys), μ2) => some (.d (.tuple (zip2D xs ys)), μ2)
    | _ => none)
  | _ => none
theorem ej_tupZip {f g : EF} (hc : X.calm = true) (hm : X.mg "tuple" = none) (hm2 : X.mg "zip" = none) (he : PE X e (tE X.K f)) (he2 : PE X e2 (tE X.K g)) (hg : Gl X "tuple" := by rfl) (hg2 : Gl X "zip" := by rfl)
    (hs : starEach [e, e2] X.env = (false, eval e X.env) :: starEach [e2] X.env := by rfl) (hs2 : starEach [e2] X.env = (false, eval e2 X.env) :: starEach [] X.env := by rfl) (hpl : (backTo pos2 (starEach [e2] X.env)).any (·.1) = false := by rfl)
    (na : starEach [.Call (.Name "zip" p2) [e, e2] [] pos2] X.env = (false, eval (.Call (.Name "zip" p2) [e, e2] [] pos2) X.env) :: starEach [] X.env := by rfl) :
    PE X (.Call (.Name "tuple" p) [.Call (.Name "zip" p2) [e, e2] [] pos2] [] pos) (tE X.K (eTupZip f g)) :=
  PE.to (pe_tupZip hc hm hm2 (aj_cons he (aj_cons he2 aj_nil hs2) hs) hg hg2 hs hpl na) fun σ H Q ⟨φ, ρ, μ, w, μ', rs, e, k⟩ => by
    unfold eTupZip at e
    split at e
    · rename_i xs μ1 e1
      split at e
      · rename_i ys μ2 e2
        cases e
        have ea : aCons f (aCons g aNil) ρ μ = some ([.d (.list xs), .d (.list ys)], μ') := by simp only [aCons, aNil, e1, e2]; rfl
        refine ⟨φ, ρ, μ, _, _, rs, ea, fun φ1 vs H1 g1 c1 r1 => ?_⟩
        obtain ⟨u, v, rfl, q1, q2⟩ := rvs2 r1
        obtain ⟨a, us, rfl, _, h1, s1⟩ := id q1
        obtain ⟨b, vs, rfl, _, h2, s2⟩ := id q2
        refine ⟨a, b, us, vs, rfl, SqL.of h1, SqL.of h2, fun q H2 zs l hq hp => ?_⟩
        have g2 : Grow φ1 φ1 H1 H2 := l.grow
        have c2 := l.cells c1
        exact new_tup c2 (pairs_da (DaAll.step g2.w _ _ s1) (DaAll.step g2.w _ _ s2) hp) (fun φ4 v4 H4 g4 c4 r4 => k φ4 v4 H4 ((g1.trans g2).trans g4) c4 r4) q hq
      · cases e
    · cases e
end
end VY
end
section
set_option Elab.async false
set_option linter.all false
set_option maxRecDepth 100000
set_option maxHeartbeats 0
namespace MR
open PySem PySem.Spec PyProof.Rows L2 VY
open VL hiding SX tX xIf eLcC
instance : LawTabs := ⟨fun K => [((He.cT K ("_law_right", none)).2, (("_law_right" : Str) ++ ".<locals>.") ++ "<lambda>"), ((He.cT K ("law", none)).2, (("law" : Str) ++ ".<locals>.") ++ "<lambda>")]⟩
def CLs : List Str := ["InvalidFraction", "InvalidMachine", "InvalidNumber", "InvalidOperation", "InvalidRun", "Refused"]
def OCs : List Str := ["Machine"]
/-! the mirror of the text, made by a program -/
def h__law_met : List Hd := [.plain "InvalidMachine" (.str "machine"),
  .plain "InvalidFraction" (.str "fraction"),
  .plain "InvalidRun" (.str "run"),
  .plain "InvalidOperation" (.str "operation"),
  .named "InvalidNumber" "given" 1 (fun p => if reprOkC "number " p = true then some (.str ("number " ++ PyData.shown p)) else none),
  .named "Refused" "reason" 1 (fun p => if reprOkC "refused " p = true then some (.str ("refused " ++ PyData.shown p)) else none)]
def fine__law_met : PyData := (.str "fine")
theorem mem__law_met_InvalidMachine : xcN (.own "InvalidMachine") ∈ CLs := (by decide +kernel : ("InvalidMachine" : Str) ∈ CLs)
theorem hd__law_met_InvalidMachine : hdM h__law_met (.own "InvalidMachine") = some (.str "machine") := by kernel_rfl
theorem mem__law_met_InvalidFraction : xcN (.own "InvalidFraction") ∈ CLs := (by decide +kernel : ("InvalidFraction" : Str) ∈ CLs)
theorem hd__law_met_InvalidFraction : hdM h__law_met (.own "InvalidFraction") = some (.str "fraction") := by kernel_rfl
theorem mem__law_met_InvalidRun : xcN (.own "InvalidRun") ∈ CLs := (by decide +kernel : ("InvalidRun" : Str) ∈ CLs)
theorem hd__law_met_InvalidRun : hdM h__law_met (.own "InvalidRun") = some (.str "run") := by kernel_rfl
theorem mem__law_met_InvalidOperation : xcN (.own "InvalidOperation") ∈ CLs := (by decide +kernel : ("InvalidOperation" : Str) ∈ CLs)
theorem hd__law_met_InvalidOperation : hdM h__law_met (.own "InvalidOperation") = some (.str "operation") := by kernel_rfl
theorem mem__law_met_InvalidNumber (p : PyData) : xcN (.low "InvalidNumber" "given" p) ∈ CLs := (by decide +kernel : ("InvalidNumber" : Str) ∈ CLs)
theorem hd__law_met_InvalidNumber (p : PyData) (h : reprOkC "number " p = true) : hdM h__law_met (.low "InvalidNumber" "given" p) = some (.str ("number " ++ PyData.shown p)) := by
  have e : hdM h__law_met (.low "InvalidNumber" "given" p) = (if reprOkC "number " p = true then some (.str ("number " ++ PyData.shown p)) else none) := by kernel_rfl
  rw [e, if_pos h]
theorem mem__law_met_Refused (p : PyData) : xcN (.low "Refused" "reason" p) ∈ CLs := (by decide +kernel : ("Refused" : Str) ∈ CLs)
theorem hd__law_met_Refused (p : PyData) (h : reprOkC "refused " p = true) : hdM h__law_met (.low "Refused" "reason" p) = some (.str ("refused " ++ PyData.shown p)) := by
  have e : hdM h__law_met (.low "Refused" "reason" p) = (if reprOkC "refused " p = true then some (.str ("refused " ++ PyData.shown p)) else none) := by kernel_rfl
  rw [e, if_pos h]
noncomputable def k1_is_number : EX := (xB1 oNeg (xC (.int 999999999999999999999999999999999999999999999999999999999999)))
@[simp] theorem e_k1_is_number (ρ : Rho) (μ : Mu) : k1_is_number ρ μ = some (.ok (.d (.int (-999999999999999999999999999999999999999999999999999999999999))) μ) := by kernel_rfl
noncomputable def b_is_number : SX := (yRet (xAnd (xIsB OCs "int" (xV 0)) (xAnd (xNotT (xIsB OCs "bool" (xV 0))) (xChain oLe oLe k1_is_number (xV 0) (xC (.int 999999999999999999999999999999999999999999999999999999999999))))))
noncomputable def m_is_number : YM := fnY false 1 b_is_number
noncomputable def b_is_from_to : SX := (yRet (xAnd (xCall 1 m_is_number (xCons (xV 0) xNil)) (xChain oLe oLe (xV 1) (xV 0) (xV 2))))
noncomputable def m_is_from_to : YM := fnY false 3 b_is_from_to
noncomputable def b_is_row : SX := (yRet (xAnd (xIsB OCs "tuple" (xV 1)) (xB2 (oEq false) (xBi oLen (xCons (xV 1) xNil)) (xV 0))))
noncomputable def m_is_row : YM := fnY false 2 b_is_row
noncomputable def q1_are_numbers : EF := (dn (xCall 3 m_is_from_to (xCons (xV 4) (xCons (xV 1) (xCons (xV 2) xNil)))))
noncomputable def b_are_numbers : SX := (yRet (xAnd (xCall 2 m_is_row (xCons (xV 0) (xCons (xV 3) xNil))) (xBi oAll (xCons (up (VC.eLc (iSeq (dn (xV 3))) (tNm 4) bYes q1_are_numbers [4])) xNil))))
noncomputable def m_are_numbers : YM := fnY false 5 b_are_numbers
noncomputable def b_are_limits : SX := (yRet (xCall 4 m_are_numbers (xCons (xV 0) (xCons (xC (.int 0)) (xCons (xC (.int 4)) (xCons (xV 1) xNil))))))
noncomputable def m_are_limits : YM := fnY false 2 b_are_limits
noncomputable def q1_are_guards : EF := (dn (xAnd (xCall 4 m_are_numbers (xCons (xC (.int 2)) (xCons (xC (.int 0)) (xCons (xV 1) (xCons (xV 3) xNil))))) (xB2 oLe (xB2 oIx (xV 3) (xC (.int 0))) (xB2 oIx (xV 3) (xC (.int 1))))))
noncomputable def b_are_guards : SX := (yRet (xAnd (xCall 2 m_is_row (xCons (xV 0) (xCons (xV 2) xNil))) (xBi oAll (xCons (up (VC.eLc (iSeq (dn (xV 2))) (tNm 3) bYes q1_are_guards [3])) xNil))))
noncomputable def m_are_guards : YM := fnY false 4 b_are_guards
noncomputable def k1_is_ascending : EX := (xB1 oNeg (xC (.int 1)))
@[simp] theorem e_k1_is_ascending (ρ : Rho) (μ : Mu) : k1_is_ascending ρ μ = some (.ok (.d (.int (-1))) μ) := by kernel_rfl
noncomputable def w2_is_ascending : SX := (ySeq (yIf (zOr (zNot (zTru (xIsB OCs "int" (xV 3)))) (zOr (zTru (xIsB OCs "bool" (xV 3))) (zNot (zE (xChain oLt oLt (xV 2) (xV 3) (xV 0)))))) (yRet (xC (.bool false))) yNx)
  (yAsg (xV 3) (tNm 2)))
noncomputable def b_is_ascending : SX := (ySeq (yIf (zNot (zTru (xIsB OCs "tuple" (xV 1)))) (yRet (xC (.bool false))) yNx)
  (ySeq (yAsg k1_is_ascending (tNm 2))
  (ySeq (yFor (iSeq (dn (xV 1))) (tNm 3) w2_is_ascending)
  (yRet (xC (.bool true))))))
noncomputable def m_is_ascending : YM := fnY false 4 b_is_ascending
noncomputable def b_has_door_form : SX := (ySeq (yIf (zNot (zTru (xCall 2 m_is_row (xCons (xC (.int 4)) (xCons (xV 2) xNil))))) yNever yNx)
  (ySeq (yAsg (xV 2) (tTp (lCons (tNm 3) (lCons (tNm 4) (lCons (tNm 5) (lCons (tNm 6) lNil))))))
  (ySeq (yAsg (xAnd (xCall 3 m_is_from_to (xCons (xV 3) (xCons (xC (.int 0)) (xCons (xB2 oSub (xV 1) (xC (.int 1))) xNil)))) (xCall 3 m_is_from_to (xCons (xV 6) (xCons (xC (.int 0)) (xCons (xB2 oSub (xV 1) (xC (.int 1))) xNil))))) (tNm 7))
  (yRet (xAnd (xV 7) (xAnd (xCall 3 m_are_guards (xCons (xV 0) (xCons (xC (.int 4)) (xCons (xV 4) xNil)))) (xCall 2 m_is_ascending (xCons (xV 0) (xCons (xV 5) xNil)))))))))
noncomputable def m_has_door_form : YM := fnY false 8 b_has_door_form
noncomputable def w1_machine_fault : SX := (yIf (zNot (zTru (xCall 2 m_are_limits (xCons (xV 0) (xCons (xB2 oIx (xV 1) (xV 3)) xNil))))) yNever yNx)
noncomputable def w2_machine_fault : SX := (yIf (zNot (zTru (xCall 3 m_has_door_form (xCons (xV 0) (xCons (xBi oLen (xCons (xV 1) xNil)) (xCons (xB2 oIx (xV 2) (xV 4)) xNil)))))) yNever yNx)
noncomputable def b_machine_fault : SX := (ySeq (yIf (zNot (zTru (xCall 3 m_is_from_to (xCons (xV 0) (xCons (xC (.int 1)) (xCons (xC (.int 3)) xNil)))))) yNever yNx)
  (ySeq (yIf (zOr (zNot (zTru (xIsB OCs "tuple" (xV 1)))) (zNot (zE (xChain oLe oLe (xC (.int 1)) (xBi oLen (xCons (xV 1) xNil)) (xC (.int 6)))))) yNever yNx)
  (ySeq (yFor (VC.iRg1 (dn (xBi oLen (xCons (xV 1) xNil)))) (tNm 3) w1_machine_fault)
  (ySeq (yIf (zOr (zNot (zTru (xIsB OCs "tuple" (xV 2)))) (zE (xB2 oGt (xBi oLen (xCons (xV 2) xNil)) (xC (.int 12))))) yNever yNx)
  (ySeq (yFor (VC.iRg1 (dn (xBi oLen (xCons (xV 2) xNil)))) (tNm 4) w2_machine_fault)
  (yRet (xC .none)))))))
noncomputable def m_machine_fault : YM := fnY false 5 b_machine_fault
noncomputable def b_Machine : IX := (iSeq2 (iIf (zE (xB2 (oIs true) (xCall 3 m_machine_fault (xCons (xV 1) (xCons (xV 2) (xCons (xV 3) xNil)))) (xC .none))) yNever)
  (iSeq2 (iFld "_clocks" (xV 1))
  (iSeq2 (iFld "_limits" (xV 2))
  (iSeq2 (iFld "_doors" (xV 3))
  iNil))))
noncomputable def m_Machine : YM := iniM 4 "Machine" b_Machine
noncomputable def b__law_roll : SX := (ySeq (yIf (zE (xB2 oGt (xB2 oIx (xV 0) (xC (.int 0))) (xC (.int 0)))) (ySeq (yAsg (xB2 oMod (xBi oInt (xCons (xB2 oIx (xV 0) (xC (.int 0))) xNil)) (xV 1)) (tNm 2))
  (ySeq (ySt (sSubS (dn (xB2 oDiv (xB2 oIx (xV 0) (xC (.int 0))) (xV 1))) (dn (xV 0)) (dn (xC (.int 0)))))
  (yRet (xV 2)))) yNx)
  (ySeq (ySt (sSubS (dn (xB2 oAdd (xB2 oIx (xV 0) (xC (.int 2))) (xC (.int 1)))) (dn (xV 0)) (dn (xC (.int 2)))))
  (ySeq (yAsg (xB2 oMod (xBi oInt (xCons (xB2 oAdd (xB2 oIx (xV 0) (xC (.int 1))) (xB2 oMul (xC (.int 71828177)) (xB2 oIx (xV 0) (xC (.int 2))))) xNil)) (xC (.int 2305843009213693421))) (tNm 3))
  (ySeq (yAsg (xB2 oAdd (xB2 oMul (xB2 oMod (xBi oInt (xCons (xB2 oAdd (xB2 oMul (xV 3) (xV 3)) (xB2 oMul (xC (.int 89)) (xB2 oIx (xV 0) (xC (.int 2))))) xNil)) (xC (.int 2305843009213693381))) (xC (.int 8128163))) (xV 3)) (tNm 4))
  (yRet (xB2 oMod (xBi oInt (xCons (xB2 oDiv (xV 4) (xC (.int 65579))) xNil)) (xV 1)))))))
noncomputable def m__law_roll : YM := fnY false 5 b__law_roll
noncomputable def b__law_pick : SX := (yRet (xB2 oIx (xV 1) (xCall 2 m__law_roll (xCons (xV 0) (xCons (xBi oLen (xCons (xV 1) xNil)) xNil)))))
noncomputable def m__law_pick : YM := fnY false 2 b__law_pick
noncomputable def b_check_machine : SX := (yIf (zNot (zTru (xIsC OCs "Machine" (xV 0)))) (yOwn "InvalidMachine") yNx)
noncomputable def m_check_machine : YM := fnY false 1 b_check_machine
noncomputable def b_Machine_doors : SX := (yRet (xFld OCs "_doors" (xV 0)))
noncomputable def m_Machine_doors : YM := fnY false 1 b_Machine_doors
noncomputable def b_check_number : SX := (yIf (zNot (zTru (xCall 3 m_is_from_to (xCons (xV 0) (xCons (xV 1) (xCons (xV 2) xNil)))))) (yLow "InvalidNumber" "given" (xV 0)) yNx)
noncomputable def m_check_number : YM := fnY false 3 b_check_number
noncomputable def b_is_fraction : SX := (ySeq (yIf (zOr (zNot (zTru (xCall 2 m_is_row (xCons (xC (.int 2)) (xCons (xV 0) xNil))))) (zOr (zNot (zTru (xCall 1 m_is_number (xCons (xB2 oIx (xV 0) (xC (.int 0))) xNil)))) (zNot (zTru (xCall 1 m_is_number (xCons (xB2 oIx (xV 0) (xC (.int 1))) xNil)))))) (yRet (xC (.bool false))) yNx)
  (yRet (xAnd (xB2 oGt (xB2 oIx (xV 0) (xC (.int 1))) (xC (.int 0))) (xB2 (oEq false) (xBi oGcd (xCons (xB2 oIx (xV 0) (xC (.int 0))) (xCons (xB2 oIx (xV 0) (xC (.int 1))) xNil))) (xC (.int 1))))))
noncomputable def m_is_fraction : YM := fnY false 1 b_is_fraction
noncomputable def b_is_from_zero : SX := (yRet (xAnd (xCall 1 m_is_fraction (xCons (xV 0) xNil)) (xB2 oGe (xB2 oIx (xV 0) (xC (.int 0))) (xC (.int 0)))))
noncomputable def m_is_from_zero : YM := fnY false 1 b_is_from_zero
noncomputable def b_check_margin : SX := (yIf (zNot (zTru (xCall 1 m_is_from_zero (xCons (xV 0) xNil)))) (yOwn "InvalidFraction") yNx)
noncomputable def m_check_margin : YM := fnY false 1 b_check_margin
noncomputable def LP_doors (C : Str) : Option YM := if C = "Machine" then some m_Machine_doors else none
@[simp] theorem LP_doors_Machine : LP_doors "Machine" = some m_Machine_doors := by kernel_rfl
noncomputable def b_check_program : SX := (ySeq (yDrop (xCall 1 m_check_machine (xCons (xV 0) xNil)))
  (ySeq (yIf (zNot (zTru (xCall 2 m_is_ascending (xCons (xBi oLen (xCons (xProp LP_doors (xV 0)) xNil)) (xCons (xV 1) xNil))))) (yOwn "InvalidOperation") yNx)
  (ySeq (yDrop (xCall 3 m_check_number (xCons (xV 2) (xCons (xC (.int 1)) (xCons (xC (.int 999999999999999999999999999999999999999999999999999999999999)) xNil)))))
  (yDrop (xCall 1 m_check_margin (xCons (xV 3) xNil))))))
noncomputable def m_check_program : YM := fnY false 4 b_check_program
noncomputable def k1_order_of : EX := (xB1 oNeg (xC (.int 1)))
@[simp] theorem e_k1_order_of (ρ : Rho) (μ : Mu) : k1_order_of ρ μ = some (.ok (.d (.int (-1))) μ) := by kernel_rfl
noncomputable def b_order_of : SX := (ySeq (yAsg (xB2 oMul (xB2 oIx (xV 0) (xC (.int 0))) (xB2 oIx (xV 1) (xC (.int 1)))) (tNm 2))
  (ySeq (yAsg (xB2 oMul (xB2 oIx (xV 1) (xC (.int 0))) (xB2 oIx (xV 0) (xC (.int 1)))) (tNm 3))
  (ySeq (yIf (zE (xB2 oLt (xV 2) (xV 3))) (yRet k1_order_of) yNx)
  (ySeq (yIf (zE (xB2 oGt (xV 2) (xV 3))) (yRet (xC (.int 1))) yNx)
  (yRet (xC (.int 0)))))))
noncomputable def m_order_of : YM := fnY false 4 b_order_of
noncomputable def b_is_lag : SX := (ySeq (yIf (zTru (xV 0)) (yRet (xB2 oLe (xCall 2 m_order_of (xCons (xV 3) (xCons (xV 2) xNil))) (xC (.int 0)))) yNx)
  (yRet (xB2 oLt (xB2 oMul (xB2 oIx (xV 3) (xC (.int 0))) (xV 1)) (xB2 oIx (xV 3) (xC (.int 1))))))
noncomputable def m_is_lag : YM := fnY false 4 b_is_lag
noncomputable def w1_do_follow : SX := (ySeq (yIf (zOr (zE (xB2 oGe (xV 4) (xBi oLen (xCons (xV 3) xNil)))) (zE (xB2 (oEq true) (xB2 oIx (xB2 oIx (xV 3) (xV 4)) (xC (.int 0))) (xV 2)))) (yRet (xC (.bool false))) yNx)
  (yAsg (xB2 oIx (xB2 oIx (xV 3) (xV 4)) (xC (.int 3))) (tNm 2)))
noncomputable def b_do_follow : SX := (ySeq (yAsg (xC (.int 0)) (tNm 2))
  (ySeq (yAsg (xProp LP_doors (xV 0)) (tNm 3))
  (ySeq (yFor (iSeq (dn (xV 1))) (tNm 4) w1_do_follow)
  (yRet (xC (.bool true))))))
noncomputable def m_do_follow : YM := fnY false 5 b_do_follow
noncomputable def q1_has_ticking_form : EF := (dn (xCall 2 m_is_row (xCons (xC (.int 3)) (xCons (xV 9) xNil))))
noncomputable def w2_has_ticking_form : SX := (ySeq (yIf (zOr (zNot (zTru (xCall 1 m_is_number (xCons (xV 6) xNil)))) (zOr (zE (xB2 oLt (xV 6) (xC (.int 0)))) (zOr (zNot (zTru (xCall 1 m_is_from_zero (xCons (xV 7) xNil)))) (zNot (zTru (xCall 3 m_is_from_to (xCons (xV 8) (xCons (xC (.int 0)) (xCons (xV 5) xNil))))))))) (yRet (xC (.bool false))) yNx)
  (yIf (zNot (zTru (xCall 4 m_is_lag (xCons (xB2 (oIn false) (xV 8) (xV 1)) (xCons (xV 2) (xCons (xV 3) (xCons (xV 7) xNil))))))) (yRet (xC (.bool false))) yNx))
noncomputable def q3_has_ticking_form : EF := (dn (xV 8))
noncomputable def b_has_ticking_form : SX := (ySeq (yIf (zOr (zNot (zTru (xIsB OCs "tuple" (xV 4)))) (zOr (zE (xB2 oGt (xBi oLen (xCons (xV 4) xNil)) (xC (.int 20000)))) (zNot (zTru (xBi oAll (xCons (up (VC.eLc (iSeq (dn (xV 4))) (tNm 9) bYes q1_has_ticking_form [9])) xNil)))))) (yRet (xC (.bool false))) yNx)
  (ySeq (yAsg (xB2 oSub (xBi oLen (xCons (xProp LP_doors (xV 0)) xNil)) (xC (.int 1))) (tNm 5))
  (ySeq (yFor (iSeq (dn (xV 4))) (tTp (lCons (tNm 6) (lCons (tNm 7) (lCons (tNm 8) lNil)))) w2_has_ticking_form)
  (yRet (xCall 2 m_do_follow (xCons (xV 0) (xCons (up (VC.eLc (iSeq (dn (xV 4))) (tTp (lCons (tNm 6) (lCons (tNm 7) (lCons (tNm 8) lNil)))) bYes q3_has_ticking_form [6, 7, 8])) xNil)))))))
noncomputable def m_has_ticking_form : YM := fnY false 10 b_has_ticking_form
noncomputable def b_check_ticking : SX := (ySeq (yDrop (xCall 4 m_check_program (xCons (xV 0) (xCons (xV 1) (xCons (xV 2) (xCons (xV 3) xNil))))))
  (yIf (zNot (zTru (xCall 5 m_has_ticking_form (xCons (xV 0) (xCons (xV 1) (xCons (xV 2) (xCons (xV 3) (xCons (xV 4) xNil)))))))) (yOwn "InvalidRun") yNx))
noncomputable def m_check_ticking : YM := fnY false 5 b_check_ticking
noncomputable def b_reduced : SX := (ySeq (yAsg (xBi oGcd (xCons (xV 0) (xCons (xV 1) xNil))) (tNm 2))
  (ySeq (yIf (zE (xB2 oLt (xV 1) (xC (.int 0)))) yNever yNx)
  (yRet (xTup (xCons (xB2 oDiv (xV 0) (xV 2)) (xCons (xB2 oDiv (xV 1) (xV 2)) xNil))))))
noncomputable def m_reduced : YM := fnY false 3 b_reduced
noncomputable def b_sum_of : SX := (yRet (xCall 2 m_reduced (xCons (xB2 oAdd (xB2 oMul (xB2 oIx (xV 0) (xC (.int 0))) (xB2 oIx (xV 1) (xC (.int 1)))) (xB2 oMul (xB2 oIx (xV 1) (xC (.int 0))) (xB2 oIx (xV 0) (xC (.int 1))))) (xCons (xB2 oMul (xB2 oIx (xV 0) (xC (.int 1))) (xB2 oIx (xV 1) (xC (.int 1)))) xNil))))
noncomputable def m_sum_of : YM := fnY false 2 b_sum_of
noncomputable def q1_door_moments : EF := (dn (xCall 2 m_sum_of (xCons (xCall 2 m_reduced (xCons (xV 2) (xCons (xV 0) xNil))) (xCons (xV 3) xNil))))
noncomputable def b_door_moments : SX := (yRet (up (VC.eLc (iSeq (dn (xV 1))) (tTp (lCons (tNm 2) (lCons (tNm 3) (lCons (tNm 4) lNil)))) bYes q1_door_moments [2, 3, 4])))
noncomputable def m_door_moments : YM := fnY false 5 b_door_moments
noncomputable def b_moments : SX := (ySeq (yDrop (xCall 5 m_check_ticking (xCons (xV 0) (xCons (xV 1) (xCons (xV 2) (xCons (xV 3) (xCons (xV 4) xNil)))))))
  (yRet (xBi oTupleOf (xCons (xCall 2 m_door_moments (xCons (xV 2) (xCons (xV 4) xNil))) xNil))))
noncomputable def m_moments : YM := fnY false 5 b_moments
noncomputable def b_noticed : SX := (ySeq (yDrop (xCall 5 m_check_ticking (xCons (xV 0) (xCons (xV 1) (xCons (xV 2) (xCons (xV 3) (xCons (xV 4) xNil)))))))
  yNever)
noncomputable def m_noticed : YM := fnY false 5 b_noticed
noncomputable def b_counters : SX := (ySeq (yDrop (xCall 5 m_check_ticking (xCons (xV 0) (xCons (xV 1) (xCons (xV 2) (xCons (xV 3) (xCons (xV 4) xNil)))))))
  yNever)
noncomputable def m_counters : YM := fnY false 8 b_counters
noncomputable def b_ticking_fault : SX := (ySeq (yDrop (xCall 5 m_check_ticking (xCons (xV 0) (xCons (xV 1) (xCons (xV 2) (xCons (xV 3) (xCons (xV 4) xNil)))))))
  yNever)
noncomputable def m_ticking_fault : YM := fnY false 5 b_ticking_fault
noncomputable def q1_notice_ticks : EF := (dn (xIf (zOr (zE (xB2 (oIn false) (xV 4) (xV 0))) (zE (xB2 (oEq false) (xV 3) (xC (.tuple [(.int 0), (.int 1)]))))) (xV 2) (xB2 oAdd (xV 2) (xC (.int 1)))))
noncomputable def b_notice_ticks : SX := (yRet (up (VC.eLc (iSeq (dn (xV 1))) (tTp (lCons (tNm 2) (lCons (tNm 3) (lCons (tNm 4) lNil)))) bYes q1_notice_ticks [2, 3, 4])))
noncomputable def m_notice_ticks : YM := fnY false 5 b_notice_ticks
noncomputable def b_Machine_clocks : SX := (yRet (xFld OCs "_clocks" (xV 0)))
noncomputable def m_Machine_clocks : YM := fnY false 1 b_Machine_clocks
noncomputable def b_difference_of : SX := (yRet (xCall 2 m_reduced (xCons (xB2 oSub (xB2 oMul (xB2 oIx (xV 0) (xC (.int 0))) (xB2 oIx (xV 1) (xC (.int 1)))) (xB2 oMul (xB2 oIx (xV 1) (xC (.int 0))) (xB2 oIx (xV 0) (xC (.int 1))))) (xCons (xB2 oMul (xB2 oIx (xV 0) (xC (.int 1))) (xB2 oIx (xV 1) (xC (.int 1)))) xNil))))
noncomputable def m_difference_of : YM := fnY false 2 b_difference_of
noncomputable def LP_clocks (C : Str) : Option YM := if C = "Machine" then some m_Machine_clocks else none
@[simp] theorem LP_clocks_Machine : LP_clocks "Machine" = some m_Machine_clocks := by kernel_rfl
noncomputable def q1_begun_at : EF := (dn (xIf (zE (xB2 (oIn false) (xV 5) (xV 4))) (xV 3) (xB2 oIx (xV 2) (xV 5))))
noncomputable def b_begun_at : SX := (ySeq (yAsg (xB2 oIx (xB2 oIx (xProp LP_doors (xV 0)) (xV 1)) (xC (.int 2))) (tNm 4))
  (yRet (xBi oTupleOf (xCons (up (VC.eLc (VC.iRg1 (dn (xProp LP_clocks (xV 0)))) (tNm 5) bYes q1_begun_at [5])) xNil))))
noncomputable def m_begun_at : YM := fnY false 6 b_begun_at
noncomputable def k1_reading_rows : EX := (xTup (xCons (xC (.tuple [(.int 0), (.int 1)])) xNil))
@[simp] theorem e_k1_reading_rows (ρ : Rho) (μ : Mu) : k1_reading_rows ρ μ = some (.ok (.d (.tuple [(.tuple [(.int 0), (.int 1)])])) μ) := by kernel_rfl
noncomputable def q2_reading_rows : EF := (dn (xCall 2 m_difference_of (xCons (xV 5) (xCons (xV 9) xNil))))
noncomputable def w3_reading_rows : SX := (ySeq (yApp (xV 4) (xBi oTupleOf (xCons (up (VC.eLc (iSeq (dn (xV 3))) (tNm 9) bYes q2_reading_rows [9])) xNil)))
  (yAsg (xCall 4 m_begun_at (xCons (xV 0) (xCons (xV 8) (xCons (xV 3) (xCons (xV 5) xNil))))) (tNm 3)))
noncomputable def b_reading_rows : SX := (ySeq (yAsg (xB2 oRepW k1_reading_rows (xProp LP_clocks (xV 0))) (tNm 3))
  (ySeq (yAsg (xLstC xNil) (tNm 4))
  (ySeq (yFor (iZipW (dn (xV 1)) (dn (xV 2))) (tTp (lCons (tNm 5) (lCons (tTp (lCons (tNm 6) (lCons (tNm 7) (lCons (tNm 8) lNil)))) lNil))) w3_reading_rows)
  (yRet (xV 4)))))
noncomputable def m_reading_rows : YM := fnY false 10 b_reading_rows
noncomputable def k1_counter_rows : EX := (xTup (xCons (xC (.int 0)) xNil))
@[simp] theorem e_k1_counter_rows (ρ : Rho) (μ : Mu) : k1_counter_rows ρ μ = some (.ok (.d (.tuple [(.int 0)])) μ) := by kernel_rfl
noncomputable def q2_counter_rows : EF := (dn (xB2 oSub (xV 5) (xV 9)))
noncomputable def w3_counter_rows : SX := (ySeq (yApp (xV 4) (xBi oTupleOf (xCons (up (VC.eLc (iSeq (dn (xV 3))) (tNm 9) bYes q2_counter_rows [9])) xNil)))
  (yAsg (xCall 4 m_begun_at (xCons (xV 0) (xCons (xV 7) (xCons (xV 3) (xCons (xV 8) xNil))))) (tNm 3)))
noncomputable def b_counter_rows : SX := (ySeq (yAsg (xB2 oRepW k1_counter_rows (xProp LP_clocks (xV 0))) (tNm 3))
  (ySeq (yAsg (xLstC xNil) (tNm 4))
  (ySeq (yFor (iZipW (dn (xV 2)) (dn (xCall 2 m_notice_ticks (xCons (xV 1) (xCons (xV 2) xNil))))) (tTp (lCons (tTp (lCons (tNm 5) (lCons (tNm 6) (lCons (tNm 7) lNil)))) (lCons (tNm 8) lNil))) w3_counter_rows)
  (yRet (xV 4)))))
noncomputable def m_counter_rows : YM := fnY false 10 b_counter_rows
noncomputable def b_Machine_limits : SX := (yRet (xFld OCs "_limits" (xV 0)))
noncomputable def m_Machine_limits : YM := fnY false 1 b_Machine_limits
noncomputable def LP_limits (C : Str) : Option YM := if C = "Machine" then some m_Machine_limits else none
@[simp] theorem LP_limits_Machine : LP_limits "Machine" = some m_Machine_limits := by kernel_rfl
noncomputable def w1_asked_at : SX := (ySeq (yAsg (xB2 oIx (xV 3) (xV 7)) (tTp (lCons (tNm 8) (lCons (tNm 9) lNil))))
  (ySeq (yAsg (xBi oMin2 (xCons (xV 9) (xCons (xB2 oIx (xB2 oIx (xProp LP_limits (xV 0)) (xV 2)) (xV 7)) xNil))) (tNm 9))
  (yApp (xV 6) (xTup (xCons (xV 8) (xCons (xIf (zE (xB2 (oIn false) (xV 7) (xV 4))) (xV 9) (xBi oMin2 (xCons (xV 9) (xCons (xB2 oIx (xB2 oIx (xProp LP_limits (xV 0)) (xV 5)) (xV 7)) xNil)))) xNil))))))
noncomputable def b_asked_at : SX := (ySeq (yAsg (xB2 oIx (xProp LP_doors (xV 0)) (xV 1)) (tTp (lCons (tNm 2) (lCons (tNm 3) (lCons (tNm 4) (lCons (tNm 5) lNil))))))
  (ySeq (yAsg (xLstC xNil) (tNm 6))
  (ySeq (yFor (VC.iRg1 (dn (xProp LP_clocks (xV 0)))) (tNm 7) w1_asked_at)
  (yRet (xBi oTupleOf (xCons (xV 6) xNil))))))
noncomputable def m_asked_at : YM := fnY false 10 b_asked_at
noncomputable def q1_do_keep_asked : EF := (dn (xChain oLe oLe (xB2 oMul (xV 2) (xV 5)) (xV 4) (xB2 oMul (xV 3) (xV 5))))
noncomputable def b_do_keep_asked : SX := (yRet (xBi oAll (xCons (up (VC.eLc (iZipW (dn (xV 0)) (dn (xV 1))) (tTp (lCons (tTp (lCons (tNm 2) (lCons (tNm 3) lNil))) (lCons (tTp (lCons (tNm 4) (lCons (tNm 5) lNil))) lNil))) bYes q1_do_keep_asked [2, 3, 4, 5])) xNil)))
noncomputable def m_do_keep_asked : YM := fnY false 6 b_do_keep_asked
noncomputable def q1_with_zeros : EF := (dn (xIf (zE (xB2 (oIn false) (xV 2) (xV 1))) (xC (.tuple [(.int 0), (.int 1)])) (xB2 oIx (xV 0) (xV 2))))
noncomputable def b_with_zeros : SX := (yRet (xBi oTupleOf (xCons (up (VC.eLc (VC.iRg1 (dn (xBi oLen (xCons (xV 0) xNil)))) (tNm 2) bYes q1_with_zeros [2])) xNil)))
noncomputable def m_with_zeros : YM := fnY false 3 b_with_zeros
noncomputable def b_beyond : SX := (yRet (xIf (zE (xB2 oGt (xCall 2 m_order_of (xCons (xV 0) (xCons (xV 1) xNil))) (xC (.int 0)))) (xCall 2 m_difference_of (xCons (xV 0) (xCons (xV 1) xNil))) (xC (.tuple [(.int 0), (.int 1)]))))
noncomputable def m_beyond : YM := fnY false 2 b_beyond
noncomputable def q1_all_above : EF := (dn (xCall 2 m_beyond (xCons (xV 2) (xCons (xTup (xCons (xV 3) (xCons (xC (.int 1)) xNil))) xNil))))
noncomputable def b_all_above : SX := (yRet (xBi oTupleOf (xCons (up (VC.eLc (iZipW (dn (xV 0)) (dn (xV 1))) (tTp (lCons (tNm 2) (lCons (tNm 3) lNil))) bYes q1_all_above [2, 3])) xNil)))
noncomputable def m_all_above : YM := fnY false 4 b_all_above
noncomputable def q1_step_misses : EF := (dn (xV 10))
noncomputable def q2_step_misses : EF := (dn (xV 11))
noncomputable def q3_step_misses : EF := (dn (xCall 2 m_beyond (xCons (xTup (xCons (xV 12) (xCons (xC (.int 1)) xNil))) (xCons (xV 13) xNil))))
noncomputable def b_step_misses : SX := (ySeq (yAsg (xB2 oIx (xProp LP_doors (xV 0)) (xV 1)) (tTp (lCons (tNm 4) (lCons (tNm 5) (lCons (tNm 6) (lCons (tNm 7) lNil))))))
  (ySeq (yAsg (up (VC.eLc (iSeq (dn (xV 5))) (tTp (lCons (tNm 10) (lCons (tNm 11) lNil))) bYes q1_step_misses [10, 11])) (tNm 8))
  (ySeq (yAsg (up (VC.eLc (iSeq (dn (xV 5))) (tTp (lCons (tNm 10) (lCons (tNm 11) lNil))) bYes q2_step_misses [10, 11])) (tNm 9))
  (ySeq (yAsg (xBi oTupleOf (xCons (up (VC.eLc (iZipW (dn (xV 8)) (dn (xV 2))) (tTp (lCons (tNm 12) (lCons (tNm 13) lNil))) bYes q3_step_misses [12, 13])) xNil)) (tNm 10))
  (yRet (xTup (xCons (xCall 2 m_all_above (xCons (xV 2) (xCons (xB2 oIx (xProp LP_limits (xV 0)) (xV 4)) xNil))) (xCons (xV 10) (xCons (xCall 2 m_all_above (xCons (xV 2) (xCons (xV 9) xNil))) (xCons (xCall 2 m_all_above (xCons (xV 3) (xCons (xB2 oIx (xProp LP_limits (xV 0)) (xV 7)) xNil))) xNil))))))))))
noncomputable def m_step_misses : YM := fnY false 14 b_step_misses
noncomputable def w1_first_missed : SX := (yIf (zE (xB2 (oEq true) (xB2 oIx (xV 5) (xV 6)) (xC (.tuple [(.int 0), (.int 1)])))) (yRet (xTup (xCons (xV 4) (xCons (xV 6) xNil)))) yNx)
noncomputable def w2_first_missed : SX := (yFor (VC.iRg1 (dn (xProp LP_clocks (xV 0)))) (tNm 6) w1_first_missed)
noncomputable def b_first_missed : SX := (ySeq (yAsg (xCall 2 m_with_zeros (xCons (xV 2) (xCons (xB2 oIx (xB2 oIx (xProp LP_doors (xV 0)) (xV 1)) (xC (.int 2))) xNil))) (tNm 3))
  (ySeq (yFor (iZipW (dn (xC (.tuple [(.str "stay"), (.str "low"), (.str "high"), (.str "enter")]))) (dn (xCall 4 m_step_misses (xCons (xV 0) (xCons (xV 1) (xCons (xV 2) (xCons (xV 3) xNil))))))) (tTp (lCons (tNm 4) (lCons (tNm 5) lNil))) w2_first_missed)
  yNever))
noncomputable def m_first_missed : YM := fnY false 7 b_first_missed
noncomputable def q1_first_fault : EF := (dn (xCall 2 m_asked_at (xCons (xV 0) (xCons (xV 12) xNil))))
noncomputable def q2_first_fault : EF := (dn (xTup (xCons (xV 14) (xCons (xV 2) xNil))))
noncomputable def w3_first_fault : SX := (ySeq (yAsg (xB2 oIx (xV 3) (xV 9)) (tTp (lCons (tNm 10) (lCons (tNm 11) (lCons (tNm 12) lNil)))))
  (ySeq (yIf (zAnd (zE (xB2 oGt (xV 9) (xC (.int 0)))) (zE (xB2 oLt (xCall 2 m_order_of (xCons (xB2 oIx (xV 4) (xV 9)) (xCons (xB2 oIx (xV 4) (xB2 oSub (xV 9) (xC (.int 1)))) xNil))) (xC (.int 0))))) yNever yNx)
  (ySeq (yIf (zAnd (zE (xB2 oGt (xV 9) (xC (.int 0)))) (zAnd (zE (xB2 (oIn false) (xV 12) (xV 1))) (zE (xB2 oLt (xV 10) (xB2 oIx (xV 5) (xB2 oSub (xV 9) (xC (.int 1)))))))) yNever yNx)
  (ySeq (yAsg (xIf (zE (xB2 (oIn false) (xV 12) (xV 1))) (xBi oTupleOf (xCons (up (VC.eLc (iSeq (dn (xB2 oIx (xV 7) (xV 9)))) (tNm 14) bYes q2_first_fault [14])) xNil)) (xB2 oIx (xV 6) (xV 9))) (tNm 13))
  (yIf (zNot (zTru (xCall 2 m_do_keep_asked (xCons (xB2 oIx (xV 8) (xV 12)) (xCons (xV 13) xNil))))) (yRet (xB2 oAdd (xTup (xCons (xV 9) xNil)) (xCall 3 m_first_missed (xCons (xV 0) (xCons (xV 12) (xCons (xV 13) xNil)))))) yNx)))))
noncomputable def b_first_fault : SX := (ySeq (yAsg (xCall 2 m_door_moments (xCons (xV 2) (xCons (xV 3) xNil))) (tNm 4))
  (ySeq (yAsg (xCall 2 m_notice_ticks (xCons (xV 1) (xCons (xV 3) xNil))) (tNm 5))
  (ySeq (yAsg (xCall 3 m_reading_rows (xCons (xV 0) (xCons (xV 4) (xCons (xV 3) xNil)))) (tNm 6))
  (ySeq (yAsg (xCall 3 m_counter_rows (xCons (xV 0) (xCons (xV 1) (xCons (xV 3) xNil)))) (tNm 7))
  (ySeq (yAsg (up (VC.eLc (VC.iRg1 (dn (xBi oLen (xCons (xProp LP_doors (xV 0)) xNil)))) (tNm 12) bYes q1_first_fault [12])) (tNm 8))
  (ySeq (yFor (VC.iRg1 (dn (xBi oLen (xCons (xV 3) xNil)))) (tNm 9) w3_first_fault)
  (yRet (xC .none))))))))
noncomputable def m_first_fault : YM := fnY false 15 b_first_fault
noncomputable def k1_true_run : EX := (xLst (xCons (xC (.tuple [(.int 0), (.int 1)])) xNil))
@[simp] theorem e_k1_true_run (ρ : Rho) (μ : Mu) : k1_true_run ρ μ = some (.ok (.d (.list [(.tuple [(.int 0), (.int 1)])])) μ) := by kernel_rfl
noncomputable def q2_true_run : EF := (dn (xCall 2 m_difference_of (xCons (xV 8) (xCons (xV 9) xNil))))
noncomputable def q3_true_run : EF := (dn (xV 12))
noncomputable def b_true_run : SX := (ySeq (yDrop (xCall 5 m_check_ticking (xCons (xV 0) (xCons (xV 1) (xCons (xV 2) (xCons (xV 3) (xCons (xV 4) xNil)))))))
  (ySeq (yAsg (xCall 4 m_first_fault (xCons (xV 0) (xCons (xV 1) (xCons (xV 2) (xCons (xV 4) xNil))))) (tNm 5))
  (ySeq (yIf (zE (xB2 (oIs true) (xV 5) (xC .none))) (yLow "Refused" "reason" (xV 5)) yNx)
  (ySeq (yAsg (xCall 2 m_door_moments (xCons (xV 2) (xCons (xV 4) xNil))) (tNm 6))
  (ySeq (yAsg (up (VC.eLc (iZipW (dn (xV 6)) (dn (xB2 oAdd k1_true_run (xV 6)))) (tTp (lCons (tNm 8) (lCons (tNm 9) lNil))) bYes q2_true_run [8, 9])) (tNm 7))
  (yRet (up (eTupZip (dn (xV 7)) (dn (up (VC.eLc (iSeq (dn (xV 4))) (tTp (lCons (tNm 10) (lCons (tNm 11) (lCons (tNm 12) lNil)))) bYes q3_true_run [10, 11, 12])))))))))))
noncomputable def m_true_run : YM := fnY false 13 b_true_run
noncomputable def b_is_ticking : SX := (ySeq (yDrop (xCall 4 m_check_program (xCons (xV 0) (xCons (xV 1) (xCons (xV 2) (xCons (xV 3) xNil))))))
  (yRet (xCall 5 m_has_ticking_form (xCons (xV 0) (xCons (xV 1) (xCons (xV 2) (xCons (xV 3) (xCons (xV 4) xNil))))))))
noncomputable def m_is_ticking : YM := fnY false 5 b_is_ticking
noncomputable def b_ticks_for : SX := (ySeq (yDrop (xCall 3 m_check_number (xCons (xV 0) (xCons (xC (.int 1)) (xCons (xC (.int 64)) xNil)))))
  (ySeq (yDrop (xCall 1 m_check_margin (xCons (xV 1) xNil)))
  yNever))
noncomputable def m_ticks_for : YM := fnY false 3 b_ticks_for
noncomputable def L__law_right (y : Str) : Option (Nat × YM) := if y = "counters" then some (5, m_counters) else if y = "is_ticking" then some (5, m_is_ticking) else if y = "moments" then some (5, m_moments) else if y = "noticed" then some (5, m_noticed) else if y = "ticking_fault" then some (5, m_ticking_fault) else if y = "true_run" then some (5, m_true_run) else none
@[simp] theorem L__law_right_counters : L__law_right "counters" = some (5, m_counters) := by kernel_rfl
@[simp] theorem L__law_right_is_ticking : L__law_right "is_ticking" = some (5, m_is_ticking) := by kernel_rfl
@[simp] theorem L__law_right_moments : L__law_right "moments" = some (5, m_moments) := by kernel_rfl
@[simp] theorem L__law_right_noticed : L__law_right "noticed" = some (5, m_noticed) := by kernel_rfl
@[simp] theorem L__law_right_ticking_fault : L__law_right "ticking_fault" = some (5, m_ticking_fault) := by kernel_rfl
@[simp] theorem L__law_right_true_run : L__law_right "true_run" = some (5, m_true_run) := by kernel_rfl
noncomputable def k1__law_right : EX := (xTup (xCons (xTup (xCons (xC (.int 4)) xNil)) (xCons (xTup (xCons (xC (.int 4)) xNil)) xNil)))
@[simp] theorem e_k1__law_right (ρ : Rho) (μ : Mu) : k1__law_right ρ μ = some (.ok (.d (.tuple [(.tuple [(.int 4)]), (.tuple [(.int 4)])])) μ) := by kernel_rfl
noncomputable def k2__law_right : EX := (xTup (xCons (xTup (xCons (xC (.int 0)) (xCons (xTup (xCons (xTup (xCons (xC (.int 1)) (xCons (xC (.int 2)) xNil))) xNil)) (xCons (xTup (xCons (xC (.int 0)) xNil)) (xCons (xC (.int 1)) xNil))))) (xCons (xTup (xCons (xC (.int 1)) (xCons (xTup (xCons (xTup (xCons (xC (.int 0)) (xCons (xC (.int 4)) xNil))) xNil)) (xCons (xTup xNil) (xCons (xC (.int 0)) xNil))))) xNil)))
@[simp] theorem e_k2__law_right (ρ : Rho) (μ : Mu) : k2__law_right ρ μ = some (.ok (.d (.tuple [(.tuple [(.int 0), (.tuple [(.tuple [(.int 1), (.int 2)])]), (.tuple [(.int 0)]), (.int 1)]), (.tuple [(.int 1), (.tuple [(.tuple [(.int 0), (.int 4)])]), (.tuple []), (.int 0)])])) μ) := by kernel_rfl
noncomputable def v3__law_right : EX := (xMake 4 m_Machine (xCons (xC (.int 1)) (xCons k1__law_right (xCons k2__law_right xNil))))
noncomputable def k4__law_right : EX := (xTup xNil)
@[simp] theorem e_k4__law_right (ρ : Rho) (μ : Mu) : k4__law_right ρ μ = some (.ok (.d (.tuple [])) μ) := by kernel_rfl
noncomputable def k5__law_right : EX := (xTup (xCons (xC (.int 1)) (xCons (xTup (xCons (xTup (xCons (xC (.int 4)) xNil)) xNil)) (xCons (xTup xNil) xNil))))
@[simp] theorem e_k5__law_right (ρ : Rho) (μ : Mu) : k5__law_right ρ μ = some (.ok (.d (.tuple [(.int 1), (.tuple [(.tuple [(.int 4)])]), (.tuple [])])) μ) := by kernel_rfl
noncomputable def p6__law_right : EX := (xCall 2 m__law_pick (xCons (xV 0) (xCons (xLst (xCons (xC .none) (xCons (xC (.int 0)) (xCons k4__law_right (xCons (xC (.str "machine")) (xCons (xC (.dict [])) (xCons k5__law_right (xCons (xLst (xCons (xV 1) xNil)) (xCons (xC (.bool true)) xNil))))))))) xNil)))
noncomputable def k7__law_right : EX := (xLst (xCons (xC .none) (xCons (xC (.int 0)) (xCons (xLst (xCons (xC (.int 0)) xNil)) (xCons (xTup (xCons (xC (.int 2)) xNil)) (xCons (xTup (xCons (xB1 oNeg (xC (.int 1))) xNil)) (xCons (xTup (xCons (xC (.int 1)) (xCons (xC (.int 0)) xNil))) (xCons (xTup (xCons (xC (.int 0)) (xCons (xC (.int 0)) xNil))) (xCons (xTup (xCons (xC (.bool true)) xNil)) (xCons (xTup (xCons (xC (.str "0")) xNil)) (xCons (xC (.dict [])) xNil)))))))))))
@[simp] theorem e_k7__law_right (ρ : Rho) (μ : Mu) : k7__law_right ρ μ = some (.ok (.d (.list [.none, (.int 0), (.list [(.int 0)]), (.tuple [(.int 2)]), (.tuple [(.int (-1))]), (.tuple [(.int 1), (.int 0)]), (.tuple [(.int 0), (.int 0)]), (.tuple [(.bool true)]), (.tuple [(.str "0")]), (.dict [])])) μ) := by kernel_rfl
noncomputable def p8__law_right : EX := (xCall 2 m__law_pick (xCons (xV 0) (xCons k7__law_right xNil)))
noncomputable def k9__law_right : EX := (xLst (xCons (xC .none) (xCons (xC (.int 0)) (xCons (xB1 oNeg (xC (.int 1))) (xCons (xC (.bool true)) (xCons (xC (.str "1")) (xCons (xTup (xCons (xC (.int 1)) xNil)) (xCons (xTup (xCons (xC (.int 1)) (xCons (xC (.int 2)) xNil))) (xCons (xB2 oPow (xC (.int 10)) (xC (.int 60))) xNil)))))))))
@[simp] theorem e_k9__law_right (ρ : Rho) (μ : Mu) : k9__law_right ρ μ = some (.ok (.d (.list [.none, (.int 0), (.int (-1)), (.bool true), (.str "1"), (.tuple [(.int 1)]), (.tuple [(.int 1), (.int 2)]), (.int 1000000000000000000000000000000000000000000000000000000000000)])) μ) := by kernel_rfl
noncomputable def p10__law_right : EX := (xCall 2 m__law_pick (xCons (xV 0) (xCons k9__law_right xNil)))
noncomputable def k11__law_right : EX := (xLst (xCons (xC .none) (xCons (xC (.int 0)) (xCons (xC (.int 1)) (xCons (xTup (xCons (xC (.int 1)) xNil)) (xCons (xTup (xCons (xC (.int 2)) (xCons (xC (.int 4)) xNil))) (xCons (xTup (xCons (xB1 oNeg (xC (.int 1))) (xCons (xC (.int 2)) xNil))) (xCons (xTup (xCons (xC (.int 1)) (xCons (xC (.int 0)) xNil))) (xCons (xTup (xCons (xC (.int 1)) (xCons (xB1 oNeg (xC (.int 2))) xNil))) (xCons (xLst (xCons (xC (.int 1)) (xCons (xC (.int 2)) xNil))) (xCons (xTup (xCons (xC (.bool true)) (xCons (xC (.int 2)) xNil))) (xCons (xC (.str "1/2")) (xCons (xTup (xCons (xC (.int 0)) (xCons (xC (.int 2)) xNil))) xNil)))))))))))))
@[simp] theorem e_k11__law_right (ρ : Rho) (μ : Mu) : k11__law_right ρ μ = some (.ok (.d (.list [.none, (.int 0), (.int 1), (.tuple [(.int 1)]), (.tuple [(.int 2), (.int 4)]), (.tuple [(.int (-1)), (.int 2)]), (.tuple [(.int 1), (.int 0)]), (.tuple [(.int 1), (.int (-2))]), (.list [(.int 1), (.int 2)]), (.tuple [(.bool true), (.int 2)]), (.str "1/2"), (.tuple [(.int 0), (.int 2)])])) μ) := by kernel_rfl
noncomputable def p12__law_right : EX := (xCall 2 m__law_pick (xCons (xV 0) (xCons k11__law_right xNil)))
noncomputable def k13__law_right : EX := (xLst (xCons (xC .none) (xCons (xC (.int 0)) (xCons (xLst xNil) (xCons (xTup (xCons (xTup (xCons (xC (.int 2)) (xCons (xTup (xCons (xC (.int 0)) (xCons (xC (.int 1)) xNil))) xNil))) xNil)) (xCons (xTup (xCons (xTup (xCons (xC (.int 2)) (xCons (xTup (xCons (xC (.int 0)) (xCons (xC (.int 1)) xNil))) (xCons (xC (.int 1)) xNil)))) xNil)) (xCons (xTup (xCons (xTup (xCons (xC (.int 2)) (xCons (xTup (xCons (xC (.int 0)) (xCons (xC (.int 1)) xNil))) (xCons (xC (.int 2)) xNil)))) xNil)) (xCons (xTup (xCons (xTup (xCons (xB1 oNeg (xC (.int 1))) (xCons (xTup (xCons (xC (.int 0)) (xCons (xC (.int 1)) xNil))) (xCons (xC (.int 0)) xNil)))) xNil)) (xCons (xTup (xCons (xTup (xCons (xC (.int 2)) (xCons (xTup (xCons (xC (.int 2)) (xCons (xC (.int 4)) xNil))) (xCons (xC (.int 0)) xNil)))) xNil)) (xCons (xTup (xCons (xTup (xCons (xC (.int 2)) (xCons (xTup (xCons (xC (.int 3)) (xCons (xC (.int 4)) xNil))) (xCons (xC (.int 0)) xNil)))) xNil)) xNil))))))))))
@[simp] theorem e_k13__law_right (ρ : Rho) (μ : Mu) : k13__law_right ρ μ = some (.ok (.d (.list [.none, (.int 0), (.list []), (.tuple [(.tuple [(.int 2), (.tuple [(.int 0), (.int 1)])])]), (.tuple [(.tuple [(.int 2), (.tuple [(.int 0), (.int 1)]), (.int 1)])]), (.tuple [(.tuple [(.int 2), (.tuple [(.int 0), (.int 1)]), (.int 2)])]), (.tuple [(.tuple [(.int (-1)), (.tuple [(.int 0), (.int 1)]), (.int 0)])]), (.tuple [(.tuple [(.int 2), (.tuple [(.int 2), (.int 4)]), (.int 0)])]), (.tuple [(.tuple [(.int 2), (.tuple [(.int 3), (.int 4)]), (.int 0)])])])) μ) := by kernel_rfl
noncomputable def v14__law_right : EX := k13__law_right
noncomputable def k15__law_right : EX := (xLst (xCons (xTup (xCons (xTup (xCons (xC (.int 2)) (xCons (xC (.int 0)) (xCons (xC (.int 0)) xNil)))) xNil)) (xCons (xTup (xCons (xTup (xCons (xC (.int 2)) (xCons (xTup (xCons (xC (.int 0)) (xCons (xC (.int 1)) xNil))) (xCons (xC (.int 0)) xNil)))) (xCons (xTup (xCons (xC (.int 3)) (xCons (xTup (xCons (xC (.int 0)) (xCons (xC (.int 1)) xNil))) (xCons (xC (.int 0)) xNil)))) xNil))) (xCons (xTup (xCons (xTup (xCons (xC (.bool true)) (xCons (xTup (xCons (xC (.int 0)) (xCons (xC (.int 1)) xNil))) (xCons (xC (.int 0)) xNil)))) xNil)) (xCons (xC (.dict [])) (xCons (xTup (xCons (xTup (xCons (xC (.int 2)) (xCons (xTup (xCons (xC (.int 0)) (xCons (xC (.int 1)) xNil))) (xCons (xC (.int 0)) xNil)))) (xCons (xTup (xCons (xC (.int 3)) (xCons (xTup (xCons (xC (.int 1)) (xCons (xC (.int 2)) xNil))) (xCons (xC (.int 1)) xNil)))) xNil))) xNil))))))
@[simp] theorem e_k15__law_right (ρ : Rho) (μ : Mu) : k15__law_right ρ μ = some (.ok (.d (.list [(.tuple [(.tuple [(.int 2), (.int 0), (.int 0)])]), (.tuple [(.tuple [(.int 2), (.tuple [(.int 0), (.int 1)]), (.int 0)]), (.tuple [(.int 3), (.tuple [(.int 0), (.int 1)]), (.int 0)])]), (.tuple [(.tuple [(.bool true), (.tuple [(.int 0), (.int 1)]), (.int 0)])]), (.dict []), (.tuple [(.tuple [(.int 2), (.tuple [(.int 0), (.int 1)]), (.int 0)]), (.tuple [(.int 3), (.tuple [(.int 1), (.int 2)]), (.int 1)])])])) μ) := by kernel_rfl
noncomputable def p16__law_right : EX := (xCall 2 m__law_pick (xCons (xV 0) (xCons (xB2 oAdd (xV 6) k15__law_right) xNil)))
noncomputable def k17__law_right : EX := (xLst xNil)
@[simp] theorem e_k17__law_right (ρ : Rho) (μ : Mu) : k17__law_right ρ μ = some (.ok (.d (.list [])) μ) := by kernel_rfl
noncomputable def v18__law_right : EX := k17__law_right
noncomputable def v19__law_right : EX := (xLst (xCons (xTup (xCons (xC (fnD "moments")) (xCons (xC (.str "run")) xNil))) (xCons (xTup (xCons (xC (fnD "noticed")) (xCons (xC (.str "run")) xNil))) (xCons (xTup (xCons (xC (fnD "counters")) (xCons (xC (.str "run")) xNil))) (xCons (xTup (xCons (xC (fnD "ticking_fault")) (xCons (xC (.str "run")) xNil))) (xCons (xTup (xCons (xC (fnD "true_run")) (xCons (xC (.str "run")) xNil))) xNil))))))
noncomputable def q20__law_right : EX := (xCallV L__law_right 11 (xCons (xV 2) (xCons (xV 3) (xCons (xV 4) (xCons (xV 5) (xCons (xV 7) xNil))))))
noncomputable def h21__law_right : EX := (xMet CLs h__law_met fine__law_met q20__law_right)
noncomputable def q22__law_right : EX := (xCallV L__law_right 11 (xCons (xV 1) (xCons (xV 3) (xCons (xV 4) (xCons (xV 5) (xCons (xV 7) xNil))))))
noncomputable def h23__law_right : EX := (xMet CLs h__law_met fine__law_met q22__law_right)
noncomputable def k24__law_right : EX := (xTup (xCons (xC (.int 0)) xNil))
@[simp] theorem e_k24__law_right (ρ : Rho) (μ : Mu) : k24__law_right ρ μ = some (.ok (.d (.tuple [(.int 0)])) μ) := by kernel_rfl
noncomputable def q25__law_right : EX := (xCallV L__law_right 11 (xCons (xV 1) (xCons k24__law_right (xCons (xV 4) (xCons (xV 5) (xCons (xV 7) xNil))))))
noncomputable def h26__law_right : EX := (xMet CLs h__law_met fine__law_met q25__law_right)
noncomputable def k27__law_right : EX := (xTup (xCons (xC (.int 0)) xNil))
@[simp] theorem e_k27__law_right (ρ : Rho) (μ : Mu) : k27__law_right ρ μ = some (.ok (.d (.tuple [(.int 0)])) μ) := by kernel_rfl
noncomputable def q28__law_right : EX := (xCallV L__law_right 11 (xCons (xV 1) (xCons k27__law_right (xCons (xC (.int 2)) (xCons (xV 5) (xCons (xV 7) xNil))))))
noncomputable def h29__law_right : EX := (xMet CLs h__law_met fine__law_met q28__law_right)
noncomputable def k30__law_right : EX := (xTup (xCons (xC (.int 0)) xNil))
@[simp] theorem e_k30__law_right (ρ : Rho) (μ : Mu) : k30__law_right ρ μ = some (.ok (.d (.tuple [(.int 0)])) μ) := by kernel_rfl
noncomputable def k31__law_right : EX := (xTup (xCons (xC (.int 1)) (xCons (xC (.int 2)) xNil)))
@[simp] theorem e_k31__law_right (ρ : Rho) (μ : Mu) : k31__law_right ρ μ = some (.ok (.d (.tuple [(.int 1), (.int 2)])) μ) := by kernel_rfl
noncomputable def q32__law_right : EX := (xCallV L__law_right 11 (xCons (xV 1) (xCons k30__law_right (xCons (xC (.int 2)) (xCons k31__law_right (xCons (xV 7) xNil))))))
noncomputable def h33__law_right : EX := (xMet CLs h__law_met fine__law_met q32__law_right)
noncomputable def w34__law_right : SX := (ySeq (yApp (xV 8) h21__law_right)
  (ySeq (yApp (xV 8) h23__law_right)
  (ySeq (yApp (xV 8) h26__law_right)
  (ySeq (yApp (xV 8) h29__law_right)
  (ySeq (yApp (xV 8) h33__law_right)
  (yAsg (xB2 oAdd (xV 9) (xLst (xCons (xC (.str "machine")) (xCons (xC (.str "operation")) (xCons (xB2 oCat (xC (.str "number ")) (xBi oReprD (xCons (xV 4) xNil))) (xCons (xC (.str "fraction")) (xCons (xV 12) xNil))))))) (tNm 9)))))))
noncomputable def k35__law_right : EX := (xLst (xCons (xC .none) (xCons (xC (.int 0)) (xCons (xC (.int 65)) (xCons (xB1 oNeg (xC (.int 1))) (xCons (xC (.bool true)) (xCons (xC (.str "1")) (xCons (xTup (xCons (xC (.int 1)) xNil)) xNil))))))))
@[simp] theorem e_k35__law_right (ρ : Rho) (μ : Mu) : k35__law_right ρ μ = some (.ok (.d (.list [.none, (.int 0), (.int 65), (.int (-1)), (.bool true), (.str "1"), (.tuple [(.int 1)])])) μ) := by kernel_rfl
noncomputable def p36__law_right : EX := (xCall 2 m__law_pick (xCons (xV 0) (xCons k35__law_right xNil)))
noncomputable def k37__law_right : EX := (xTup (xCons (xC (.int 0)) xNil))
@[simp] theorem e_k37__law_right (ρ : Rho) (μ : Mu) : k37__law_right ρ μ = some (.ok (.d (.tuple [(.int 0)])) μ) := by kernel_rfl
noncomputable def k38__law_right : EX := (xTup (xCons (xC (.int 1)) (xCons (xC (.int 2)) xNil)))
@[simp] theorem e_k38__law_right (ρ : Rho) (μ : Mu) : k38__law_right ρ μ = some (.ok (.d (.tuple [(.int 1), (.int 2)])) μ) := by kernel_rfl
noncomputable def k39__law_right : EX := (xTup (xCons (xTup (xCons (xC (.int 1)) (xCons (xTup (xCons (xC (.int 0)) (xCons (xC (.int 1)) xNil))) (xCons (xC (.int 0)) xNil)))) xNil))
@[simp] theorem e_k39__law_right (ρ : Rho) (μ : Mu) : k39__law_right ρ μ = some (.ok (.d (.tuple [(.tuple [(.int 1), (.tuple [(.int 0), (.int 1)]), (.int 0)])])) μ) := by kernel_rfl
noncomputable def q40__law_right : EX := (xCall 5 m_true_run (xCons (xV 1) (xCons k37__law_right (xCons (xC (.int 2)) (xCons k38__law_right (xCons k39__law_right xNil))))))
noncomputable def h41__law_right : EX := (xMet CLs h__law_met fine__law_met q40__law_right)
noncomputable def q42__law_right : EX := (xCall 2 m_ticks_for (xCons (xV 13) (xCons (xV 5) xNil)))
noncomputable def h43__law_right : EX := (xMet CLs h__law_met fine__law_met q42__law_right)
noncomputable def q44__law_right : EX := (xCall 2 m_ticks_for (xCons (xC (.int 64)) (xCons (xV 5) xNil)))
noncomputable def h45__law_right : EX := (xMet CLs h__law_met fine__law_met q44__law_right)
noncomputable def b__law_right : SX := (ySeq (yAsg v3__law_right (tNm 1))
  (ySeq (yAsg p6__law_right (tNm 2))
  (ySeq (yAsg p8__law_right (tNm 3))
  (ySeq (yAsg p10__law_right (tNm 4))
  (ySeq (yAsg p12__law_right (tNm 5))
  (ySeq (yAsg v14__law_right (tNm 6))
  (ySeq (yAsg p16__law_right (tNm 7))
  (ySeq (yPar 8 9 (xCons (xLstC xNil) (xCons v18__law_right xNil)))
  (ySeq (yAsg v19__law_right (tNm 10))
  (ySeq (yFor (iSeq (dn (xB2 oAdd (xV 10) (xLst (xCons (xTup (xCons (xC (fnD "is_ticking")) (xCons (xC (.str "fine")) xNil))) xNil))))) (tTp (lCons (tNm 11) (lCons (tNm 12) lNil))) w34__law_right)
  (ySeq (yAsg p36__law_right (tNm 13))
  (ySeq (yApp (xV 8) h41__law_right)
  (ySeq (yApp (xV 8) h43__law_right)
  (ySeq (yApp (xV 8) h45__law_right)
  (yRet (xB2 (oEq false) (xV 8) (xB2 oAdd (xV 9) (xLst (xCons (xC (.str "refused (0, 'low', 0)")) (xCons (xB2 oCat (xC (.str "number ")) (xBi oReprD (xCons (xV 13) xNil))) (xCons (xC (.str "fraction")) xNil)))))))))))))))))))))
noncomputable def m__law_right : YM := fnY false 14 b__law_right
noncomputable def k1__law_dice : EX := (xB2 oPow (xC (.int 10)) (xC (.int 16)))
@[simp] theorem e_k1__law_dice (ρ : Rho) (μ : Mu) : k1__law_dice ρ μ = some (.ok (.d (.int 10000000000000000)) μ) := by kernel_rfl
noncomputable def k2__law_dice : EX := (xB2 oMul (xB2 oPow (xC (.int 10)) (xC (.int 57))) (xB2 oPow (xC (.int 10)) (xC (.int 59))))
@[simp] theorem e_k2__law_dice (ρ : Rho) (μ : Mu) : k2__law_dice ρ μ = some (.ok (.d (.int 100000000000000000000000000000000000000000000000000000000000000000000000000000000000000000000000000000000000000000000)) μ) := by kernel_rfl
noncomputable def b__law_dice : SX := (ySeq (yAsg (xIf (zE (xB2 oLt (xV 1) (xBi oLen (xCons (xV 0) xNil)))) (xBi oInt (xCons (xB2 oIx (xV 0) (xV 1)) xNil)) (xB2 oAdd (xB2 oMul (xC (.int 71)) (xV 1)) (xC (.int 43)))) (tNm 2))
  (ySeq (yAsg (xB2 oMod (xBi oMax2 (xCons (xC (.int 0)) (xCons (xB2 oSub (xBi oAbs (xCons (xV 2) xNil)) k1__law_dice) xNil))) k2__law_dice) (tNm 3))
  (yRet (xLstC (xCons (xV 3) (xCons (xB2 oAdd (xB2 oAdd (xB2 oAdd (xB2 oMul (xB2 oMod (xBi oAbs (xCons (xV 2) xNil)) (xC (.int 1152921504606846869))) (xC (.int 89))) (xB2 oMul (xC (.int 1021)) (xV 1))) (xB2 oMul (xC (.int 47)) (xBi oInt (xCons (xB2 oLt (xV 2) (xC (.int 0))) xNil)))) (xC (.int 31))) (xCons (xC (.int 0)) xNil)))))))
noncomputable def m__law_dice : YM := fnY true 4 b__law_dice
noncomputable def w1_law : SX := (yIf (zNot (zTru (xCall 1 m__law_right (xCons (xCall 2 m__law_dice (xCons (xV 0) (xCons (xV 1) xNil))) xNil)))) yNever yNx)
noncomputable def k2_law : EX := (xTup (xCons (xTup (xCons (xC (.int 4)) xNil)) (xCons (xTup (xCons (xC (.int 4)) xNil)) xNil)))
@[simp] theorem e_k2_law (ρ : Rho) (μ : Mu) : k2_law ρ μ = some (.ok (.d (.tuple [(.tuple [(.int 4)]), (.tuple [(.int 4)])])) μ) := by kernel_rfl
noncomputable def k3_law : EX := (xTup (xCons (xTup (xCons (xC (.int 0)) (xCons (xTup (xCons (xTup (xCons (xC (.int 1)) (xCons (xC (.int 2)) xNil))) xNil)) (xCons (xTup (xCons (xC (.int 0)) xNil)) (xCons (xC (.int 1)) xNil))))) (xCons (xTup (xCons (xC (.int 1)) (xCons (xTup (xCons (xTup (xCons (xC (.int 0)) (xCons (xC (.int 4)) xNil))) xNil)) (xCons (xTup xNil) (xCons (xC (.int 0)) xNil))))) xNil)))
@[simp] theorem e_k3_law (ρ : Rho) (μ : Mu) : k3_law ρ μ = some (.ok (.d (.tuple [(.tuple [(.int 0), (.tuple [(.tuple [(.int 1), (.int 2)])]), (.tuple [(.int 0)]), (.int 1)]), (.tuple [(.int 1), (.tuple [(.tuple [(.int 0), (.int 4)])]), (.tuple []), (.int 0)])])) μ) := by kernel_rfl
noncomputable def v4_law : EX := (xMake 4 m_Machine (xCons (xC (.int 1)) (xCons k2_law (xCons k3_law xNil))))
noncomputable def k5_law : EX := (xTup (xCons (xC (.int 0)) xNil))
@[simp] theorem e_k5_law (ρ : Rho) (μ : Mu) : k5_law ρ μ = some (.ok (.d (.tuple [(.int 0)])) μ) := by kernel_rfl
noncomputable def k6_law : EX := (xTup (xCons (xC (.int 1)) (xCons (xC (.int 2)) xNil)))
@[simp] theorem e_k6_law (ρ : Rho) (μ : Mu) : k6_law ρ μ = some (.ok (.d (.tuple [(.int 1), (.int 2)])) μ) := by kernel_rfl
noncomputable def k7_law : EX := (xTup (xCons (xTup (xCons (xC (.int 2)) (xCons (xTup (xCons (xC (.int 1)) (xCons (xC (.int 2)) xNil))) (xCons (xC (.int 0)) xNil)))) xNil))
@[simp] theorem e_k7_law (ρ : Rho) (μ : Mu) : k7_law ρ μ = some (.ok (.d (.tuple [(.tuple [(.int 2), (.tuple [(.int 1), (.int 2)]), (.int 0)])])) μ) := by kernel_rfl
noncomputable def q8_law : EX := (xCall 5 m_true_run (xCons (xV 2) (xCons k5_law (xCons (xC (.int 2)) (xCons k6_law (xCons k7_law xNil))))))
noncomputable def h9_law : EX := (xMet CLs h__law_met fine__law_met q8_law)
noncomputable def k10_law : EX := (xTup xNil)
@[simp] theorem e_k10_law (ρ : Rho) (μ : Mu) : k10_law ρ μ = some (.ok (.d (.tuple [])) μ) := by kernel_rfl
noncomputable def k11_law : EX := (xB2 oPow (xC (.int 10)) (xC (.int 59)))
@[simp] theorem e_k11_law (ρ : Rho) (μ : Mu) : k11_law ρ μ = some (.ok (.d (.int 100000000000000000000000000000000000000000000000000000000000)) μ) := by kernel_rfl
noncomputable def k12_law : EX := (xTup (xCons (xC (.int 0)) (xCons (xC (.int 1)) xNil)))
@[simp] theorem e_k12_law (ρ : Rho) (μ : Mu) : k12_law ρ μ = some (.ok (.d (.tuple [(.int 0), (.int 1)])) μ) := by kernel_rfl
noncomputable def k13_law : EX := (xTup (xCons (xTup (xCons (xB2 oPow (xC (.int 10)) (xC (.int 59))) (xCons (xTup (xCons (xC (.int 0)) (xCons (xC (.int 1)) xNil))) (xCons (xC (.int 0)) xNil)))) xNil))
@[simp] theorem e_k13_law (ρ : Rho) (μ : Mu) : k13_law ρ μ = some (.ok (.d (.tuple [(.tuple [(.int 100000000000000000000000000000000000000000000000000000000000), (.tuple [(.int 0), (.int 1)]), (.int 0)])])) μ) := by kernel_rfl
noncomputable def q14_law : EX := (xCall 5 m_true_run (xCons (xV 2) (xCons k10_law (xCons k11_law (xCons k12_law (xCons k13_law xNil))))))
noncomputable def h15_law : EX := (xMet CLs h__law_met fine__law_met q14_law)
noncomputable def k16_law : EX := (xTup (xCons (xC (.int 0)) (xCons (xC (.int 1)) xNil)))
@[simp] theorem e_k16_law (ρ : Rho) (μ : Mu) : k16_law ρ μ = some (.ok (.d (.tuple [(.int 0), (.int 1)])) μ) := by kernel_rfl
noncomputable def k17_law : EX := (xTup (xCons (xB2 oPow (xC (.int 10)) (xC (.int 59))) (xCons (xC (.int 3)) xNil)))
@[simp] theorem e_k17_law (ρ : Rho) (μ : Mu) : k17_law ρ μ = some (.ok (.d (.tuple [(.int 100000000000000000000000000000000000000000000000000000000000), (.int 3)])) μ) := by kernel_rfl
noncomputable def k18_law : EX := (xTup xNil)
@[simp] theorem e_k18_law (ρ : Rho) (μ : Mu) : k18_law ρ μ = some (.ok (.d (.tuple [])) μ) := by kernel_rfl
noncomputable def q19_law : EX := (xCall 5 m_moments (xCons (xV 2) (xCons k16_law (xCons (xC (.int 1)) (xCons k17_law (xCons k18_law xNil))))))
noncomputable def h20_law : EX := (xMet CLs h__law_met fine__law_met q19_law)
noncomputable def k21_law : EX := (xB2 oRepW (xLst (xCons (xC (.str "fine")) xNil)) (xC (.int 3)))
@[simp] theorem e_k21_law (ρ : Rho) (μ : Mu) : k21_law ρ μ = some (.ok (.d (.list [(.str "fine"), (.str "fine"), (.str "fine")])) μ) := by kernel_rfl
noncomputable def b_law : SX := (ySeq (yFor (VC.iRg1 (dn (xBi oMax2 (xCons (xC (.int 1)) (xCons (xBi oMin2 (xCons (xC (.int 4)) (xCons (xBi oLen (xCons (xV 0) xNil)) xNil))) xNil))))) (tNm 1) w1_law)
  (ySeq (yAsg v4_law (tNm 2))
  (ySeq (yAsg (xLstC (xCons h9_law xNil)) (tNm 3))
  (ySeq (yApp (xV 3) h15_law)
  (ySeq (yApp (xV 3) h20_law)
  (yRet (xB2 (oEq false) (xV 3) k21_law)))))))
noncomputable def m_law : YM := fnY false 4 b_law
end MR
end
section
set_option Elab.async false
set_option linter.all false
set_option maxHeartbeats 1000000
set_option exponentiation.threshold 30000
set_option maxRecDepth 100000
namespace MR
open PySem PySem.Spec PyProof.Rows L2 VY
open VL hiding SX tX xIf eLcC
/-! ### the dice -/
def Dice (μ : Mu) (n : Nat) : Prop := ∃ a b c : Int, μ[n]? = some [.int a, .int b, .int c]
def DU (μ : Mu) (n : Nat) (μ' : Mu) : Prop := ∃ a b c : Int, μ' = μ.set n [.int a, .int b, .int c]
theorem DU.dice {μ μ' : Mu} {n : Nat} (d : Dice μ n) (h : DU μ n μ') : Dice μ' n := by
  obtain ⟨a, b, c, h1⟩ := d
  obtain ⟨a', b', c', rfl⟩ := h
  exact ⟨a', b', c', List.getElem?_set_self (List.getElem?_eq_some_iff.mp h1).1⟩
theorem DU.trans {μ μ1 μ2 : Mu} {n : Nat} (h : DU μ n μ1) (h2 : DU μ1 n μ2) : DU μ n μ2 := by
  obtain ⟨a, b, c, rfl⟩ := h
  obtain ⟨a', b', c', rfl⟩ := h2
  exact ⟨a', b', c', by rw [List.set_set]⟩
theorem DU.len {μ μ' : Mu} {n : Nat} (h : DU μ n μ') : μ'.length = μ.length := by
  obtain ⟨a, b, c, rfl⟩ := h
  simp
theorem DU.tk {μ μ' : Mu} {n : Nat} (h : DU μ n μ') : μ'.take μ.length = μ' := List.take_of_length_le (by rw [h.len]; exact Nat.le_refl _)
theorem DU.refl {μ : Mu} {n : Nat} (d : Dice μ n) : DU μ n μ := by
  obtain ⟨a, b, c, h⟩ := d
  refine ⟨a, b, c, ?_⟩
  obtain ⟨h1, h2⟩ := (List.getElem?_eq_some_iff.mp h)
  rw [← h2, List.set_getElem_self]
theorem at30 (x y z : PyData) : atI [x, y, z] 0 = some x := rfl
theorem at31 (x y z : PyData) : atI [x, y, z] 1 = some y := rfl
theorem at32 (x y z : PyData) : atI [x, y, z] 2 = some z := rfl
theorem ix30 : ixN 3 0 = some 0 := rfl
theorem ix32 : ixN 3 2 = some 2 := rfl
theorem mul_lit1 (c : Int) : mulOk 71828177 c = true := mulOk_l (by decide)
theorem mul_lit2 (c : Int) : mulOk 89 c = true := mulOk_l (by decide)
theorem mul_lit3 (c : Int) : mulOk c 8128163 = true := mulOk_r (by decide)
theorem div_lit (c : Int) : divOk c 65579 = true := divOk_of (b := 20) (by decide) (by decide) (by decide)
theorem take_same (μ : Mu) (n : Nat) (l : List PyData) : (μ.set n l).take μ.length = μ.set n l := List.take_of_length_le (by simp)
theorem atI_nat {α : Type} (xs : List α) (i : Nat) (h : i < xs.length) : atI xs (i : Int) = xs[i]? := by
  unfold atI ixN
  rw [if_pos (by omega), if_pos (by omega)]
  rfl
theorem v_roll0 (a b c : Int) {most : Int} (h0 : 0 < most) (h9 : most.natAbs < 2 ^ 8000) : ∃ r l, (∃ a' b' c' : Int, l = [PyData.int a', .int b', .int c']) ∧ 0 ≤ r ∧ r < most ∧ ∀ (μ : Mu) (n : Nat), μ[n]? = some [.int a, .int b, .int c] → m__law_roll μ [.loc n, .d (.int most)] = some (.ok (.d (.int r)) (μ.set n l)) := by
  have hm : ∀ x : Int, 0 ≤ x.fmod most ∧ x.fmod most < most := fun x => ⟨Int.fmod_nonneg_of_pos x h0, Int.fmod_lt_of_pos x h0⟩
  have hne : most ≠ 0 := by omega
  have hdv : ∀ x, divOk x most = true := fun x => divOk_of (b := 8000) hne h9 (by decide)
  by_cases c0 : 0 < a
  · refine ⟨a.fmod most, [.int (a.fdiv most), .int b, .int c], ⟨_, _, _, rfl⟩, (hm a).1, (hm a).2, fun μ n hd => ?_⟩
    have hn : n < μ.length := (List.getElem?_eq_some_iff.mp hd).1
    have hd2 : μ[n] = [.int a, .int b, .int c] := (List.getElem?_eq_some_iff.mp hd).2
    simp [m__law_roll, b__law_roll, fnY, dn, hd2, at30, c0, hne, hdv, ix30, hn, take_same]
  · have q1 : ∀ x : Int, 0 ≤ x.fmod 2305843009213693421 ∧ x.fmod 2305843009213693421 < 2305843009213693421 := fun x => ⟨Int.fmod_nonneg_of_pos x (by decide), Int.fmod_lt_of_pos x (by decide)⟩
    have hsq : ∀ x : Int, mulOk (x.fmod 2305843009213693421) (x.fmod 2305843009213693421) = true := fun x => mulOk_l (by have := q1 x; omega)
    let one := (b + 71828177 * (c + 1)).fmod 2305843009213693421
    refine ⟨(((one * one + 89 * (c + 1)).fmod 2305843009213693381 * 8128163 + one).fdiv 65579).fmod most, [.int a, .int b, .int (c + 1)], ⟨_, _, _, rfl⟩, (hm _).1, (hm _).2, fun μ n hd => ?_⟩
    have hn : n < μ.length := (List.getElem?_eq_some_iff.mp hd).1
    have hd2 : μ[n] = [.int a, .int b, .int c] := (List.getElem?_eq_some_iff.mp hd).2
    simp [m__law_roll, b__law_roll, fnY, dn, hd2, at30, at31, at32, c0, hne, hdv, ix32, hn, mul_lit1, mul_lit2, mul_lit3, div_lit, hsq, take_same, one]
theorem v_roll {μ : Mu} {n : Nat} (d : Dice μ n) {most : Int} (h0 : 0 < most) (h9 : most.natAbs < 2 ^ 8000) : ∃ r μ', 0 ≤ r ∧ r < most ∧ DU μ n μ' ∧ m__law_roll μ [.loc n, .d (.int most)] = some (.ok (.d (.int r)) μ') := by
  obtain ⟨a, b, c, hd⟩ := d
  obtain ⟨r, l, ⟨a', b', c', hl⟩, r0, r1, h⟩ := v_roll0 a b c h0 h9
  exact ⟨r, _, r0, r1, ⟨a', b', c', by rw [hl]⟩, h μ n hd⟩
/-- the same, with cells behind -/
theorem v_rollA {μ : Mu} {n : Nat} (d : Dice μ n) {most : Int} (h0 : 0 < most) (h9 : most.natAbs < 2 ^ 8000) : ∃ r μ', 0 ≤ r ∧ r < most ∧ DU μ n μ' ∧ ∀ ls, m__law_roll (μ ++ ls) [.loc n, .d (.int most)] = some (.ok (.d (.int r)) (μ' ++ ls)) := by
  obtain ⟨a, b, c, hd⟩ := d
  obtain ⟨r, l, ⟨a', b', c', hl⟩, r0, r1, h⟩ := v_roll0 a b c h0 h9
  have hn : n < μ.length := (List.getElem?_eq_some_iff.mp hd).1
  refine ⟨r, μ.set n l, r0, r1, ⟨a', b', c', by rw [hl]⟩, fun ls => ?_⟩
  rw [h (μ ++ ls) n (by rw [List.getElem?_append_left hn]; exact hd), List.set_append_left _ _ hn]
theorem v_roll' {μ : Mu} {n : Nat} (d : Dice μ n) {most : Int} (h0 : 0 < most) (h9 : most ≤ 1000) : ∃ r μ', 0 ≤ r ∧ r < most ∧ DU μ n μ' ∧ m__law_roll μ [.loc n, .d (.int most)] = some (.ok (.d (.int r)) μ') :=
  v_roll d h0 (Nat.lt_of_le_of_lt (show most.natAbs ≤ 1000 by omega) (by decide +kernel : 1000 < 2 ^ 8000))
/-- for simp: a call with the dice is not a call with data alone -/
theorem cl_loc (m : YM) (μ : Mu) (n : Nat) (ws : List Vw) : cl m μ (.loc n :: ws) = m μ (.loc n :: ws) := rfl
theorem cl_d (m : YM) (μ : Mu) (ws : List Vw) (h : ws.all isD = true) : cl m μ ws = match m [] ws with
  | some (.ok (.d v) _) => some (.ok (.d v) μ)
  | some (.ok (.loc j) μ2) => (match μ2[j]? with
    | some ds => some (.ok (.loc μ.length) (μ ++ [ds]))
    | none => none)
  | some (.ex e _) => some (.ex e μ)
  | _ => none := by unfold cl; rw [h]; rfl
theorem cl_nil (m : YM) (μ : Mu) : cl m μ [] = match m [] [] with
  | some (.ok (.d v) _) => some (.ok (.d v) μ)
  | some (.ok (.loc j) μ2) => (match μ2[j]? with
    | some ds => some (.ok (.loc μ.length) (μ ++ [ds]))
    | none => none)
  | some (.ex e _) => some (.ex e μ)
  | _ => none := rfl
theorem sok0 (all : List PyData) (μ : Mu) : VC.sok none all μ = true := rfl
theorem app_at (μ : Mu) (l : List PyData) : (μ ++ [l])[μ.length]? = some l := by simp
theorem app_set (μ : Mu) (l l' : List PyData) : (μ ++ [l]).set μ.length l' = μ ++ [l'] := by simp
theorem app_tk (μ : Mu) (l : List PyData) : (μ ++ [l]).take μ.length = μ := by simp
theorem atI_get {ds : List PyData} {r : Int} (h0 : 0 ≤ r) (h1 : r < ds.length) : ∃ d, d ∈ ds ∧ atI ds r = some d := by
  obtain ⟨k, rfl⟩ := Int.eq_ofNat_of_zero_le h0
  have hl : k < ds.length := by omega
  exact ⟨ds[k], List.getElem_mem hl, by rw [MR.atI_nat _ _ hl]; simp [hl]⟩
theorem v_pick {μ : Mu} {n : Nat} (d : Dice μ n) {ds : List PyData} (h0 : ds ≠ []) (h9 : ds.length ≤ 1000) : ∃ p μ', p ∈ ds ∧ DU μ n μ' ∧ m__law_pick μ [.loc n, .d (.list ds)] = some (.ok (.d p) μ') := by
  have hl : 0 < ds.length := List.length_pos_iff.mpr h0
  obtain ⟨r, μ', r0, r1, du, e⟩ := v_roll d (most := ds.length) (by omega) (Nat.lt_of_le_of_lt (by simpa using h9) (by decide +kernel : 1000 < 2 ^ 8000))
  obtain ⟨p, hp, ep⟩ := atI_get r0 r1
  refine ⟨p, μ', hp, du, ?_⟩
  have := du.len
  simp [m__law_pick, b__law_pick, fnY, cl_loc, e, ep, ← this]
theorem v_pickA {μ : Mu} {n : Nat} (d : Dice μ n) {ds : List PyData} (h0 : ds ≠ []) (h9 : ds.length ≤ 1000) : ∃ p μ', p ∈ ds ∧ DU μ n μ' ∧ ∀ ls, m__law_pick (μ ++ ls) [.loc n, .d (.list ds)] = some (.ok (.d p) (μ' ++ ls)) := by
  have hl : 0 < ds.length := List.length_pos_iff.mpr h0
  obtain ⟨r, μ', r0, r1, du, e⟩ := v_rollA d (most := ds.length) (by omega) (Nat.lt_of_le_of_lt (by simpa using h9) (by decide +kernel : 1000 < 2 ^ 8000))
  obtain ⟨p, hp, ep⟩ := atI_get r0 r1
  refine ⟨p, μ', hp, du, fun ls => ?_⟩
  have h1 := du.len
  have tk : (μ' ++ ls).take (μ.length + ls.length) = μ' ++ ls := List.take_of_length_le (by rw [List.length_append, h1]; exact Nat.le_refl _)
  simp [m__law_pick, b__law_pick, fnY, cl_loc, e, ep]
  try simpa using tk
/-- a cell behind mu, looked at after a draw -/
theorem app_at2 {μ μ' : Mu} (h : μ'.length = μ.length) (l : List PyData) : (μ' ++ [l])[μ.length]? = some l := by rw [← h]; simp
theorem app_set2 {μ μ' : Mu} (h : μ'.length = μ.length) (l l' : List PyData) : (μ' ++ [l]).set μ.length l' = μ' ++ [l'] := by rw [← h]; simp
theorem v_dice (ns : List Int) (k : Int) (hk : 0 ≤ k) : ∃ a b : Int, m__law_dice [] [.kl ns, .d (.int k)] = some (.ok (.loc 0) [[.int a, .int b, .int 0]]) := by
  have m1 : ∀ x, mulOk 71 x = true := fun x => mulOk_l (by decide)
  have m2 : ∀ x, mulOk x 89 = true := fun x => mulOk_r (by decide)
  have m3 : ∀ x, mulOk 1021 x = true := fun x => mulOk_l (by decide)
  have m4 : ∀ x, mulOk 47 x = true := fun x => mulOk_l (by decide)
  have m5 : mulOk 1000000000000000000000000000000000000000000000000000000000 100000000000000000000000000000000000000000000000000000000000 = true := by decide +kernel
  by_cases c : k < ns.length
  · obtain ⟨j, rfl⟩ := Int.eq_ofNat_of_zero_le hk
    have hj : j < ns.length := by omega
    have a0 : atI (ns.map PyData.int) (j : Int) = some (.int ns[j]) := by rw [MR.atI_nat _ _ (by simpa using hj)]; simp [hj]
    simp [m__law_dice, b__law_dice, fnY, m1, m2, m3, m4, m5, hj, a0]
  · simp [m__law_dice, b__law_dice, fnY, m1, m2, m3, m4, m5, c]
theorem forY_run {t : TF} {body : SX} {all : List PyData} (I : List PyData → Rho → Mu → Prop) (step : ∀ d ds ρ μ, I (d :: ds) ρ μ → ∃ ρ1 ρ2 μ2, t (.d d) ρ = some ρ1 ∧ body ρ1 μ = some (.ok (.nx ρ2) μ2) ∧ I ds ρ2 μ2) :
    ∀ ds ρ μ, I ds ρ μ → ∃ ρ' μ', forY t body none all ds ρ μ = some (.ok (.nx ρ') μ') ∧ I [] ρ' μ'
  | [], ρ, μ, h => ⟨ρ, μ, by simp [forY, sok0], h⟩
  | d :: ds, ρ, μ, h => by
    obtain ⟨ρ1, ρ2, μ2, e1, e2, h2⟩ := step d ds ρ μ h
    obtain ⟨ρ', μ', e3, h3⟩ := forY_run (all := all) I step ds ρ2 μ2 h2
    exact ⟨ρ', μ', by simp [forY, sok0, e1, e2, e3], h3⟩
end MR
end
section
set_option Elab.async false
set_option linter.all false
set_option maxHeartbeats 4000000
set_option exponentiation.threshold 30000
set_option maxRecDepth 100000
namespace MR
open PySem PySem.Spec PyProof.Rows L2 VY
open VL hiding SX tX xIf eLcC
def cv_v3__law_right : PyData := (obD "Machine" [(.str "_clocks", (.int 1)), (.str "_limits", (.tuple [(.tuple [(.int 4)]), (.tuple [(.int 4)])])), (.str "_doors", (.tuple [(.tuple [(.int 0), (.tuple [(.tuple [(.int 1), (.int 2)])]), (.tuple [(.int 0)]), (.int 1)]), (.tuple [(.int 1), (.tuple [(.tuple [(.int 0), (.int 4)])]), (.tuple []), (.int 0)])]))])
theorem F_v3__law_right : ∀ (s0 s1 s2 s3 s4 s5 s6 s7 s8 s9 s10 s11 s12 s13 : Option Vw), ∀ (μ : Mu), v3__law_right [s0, s1, s2, s3, s4, s5, s6, s7, s8, s9, s10, s11, s12, s13] μ = some (.ok (.d cv_v3__law_right) μ) := by (intros; kernel_rfl)
def L1_law_right : List PyData := [.none, (.int 0), (.tuple []), (.str "machine"), (.dict []), (.tuple [(.int 1), (.tuple [(.tuple [(.int 4)])]), (.tuple [])]), (.list [(obD "Machine" [(.str "_clocks", (.int 1)), (.str "_limits", (.tuple [(.tuple [(.int 4)]), (.tuple [(.int 4)])])), (.str "_doors", (.tuple [(.tuple [(.int 0), (.tuple [(.tuple [(.int 1), (.int 2)])]), (.tuple [(.int 0)]), (.int 1)]), (.tuple [(.int 1), (.tuple [(.tuple [(.int 0), (.int 4)])]), (.tuple []), (.int 0)])]))])]), (.bool true)]
theorem P_p6__law_right : ∀ (n : Nat) (s2 s3 s4 s5 s6 s7 s8 s9 s10 s11 s12 s13 : Option Vw) (μ : Mu), p6__law_right [some (.loc n), some (.d cv_v3__law_right), s2, s3, s4, s5, s6, s7, s8, s9, s10, s11, s12, s13] μ = m__law_pick μ [.loc n, .d (.list L1_law_right)] := by intros; kernel_rfl
def L2_law_right : List PyData := [.none, (.int 0), (.list [(.int 0)]), (.tuple [(.int 2)]), (.tuple [(.int (-1))]), (.tuple [(.int 1), (.int 0)]), (.tuple [(.int 0), (.int 0)]), (.tuple [(.bool true)]), (.tuple [(.str "0")]), (.dict [])]
theorem P_p8__law_right : ∀ (n : Nat) (s1 s2 s3 s4 s5 s6 s7 s8 s9 s10 s11 s12 s13 : Option Vw) (μ : Mu), p8__law_right [some (.loc n), s1, s2, s3, s4, s5, s6, s7, s8, s9, s10, s11, s12, s13] μ = m__law_pick μ [.loc n, .d (.list L2_law_right)] := by intros; kernel_rfl
def L3_law_right : List PyData := [.none, (.int 0), (.int (-1)), (.bool true), (.str "1"), (.tuple [(.int 1)]), (.tuple [(.int 1), (.int 2)]), (.int 1000000000000000000000000000000000000000000000000000000000000)]
theorem P_p10__law_right : ∀ (n : Nat) (s1 s2 s3 s4 s5 s6 s7 s8 s9 s10 s11 s12 s13 : Option Vw) (μ : Mu), p10__law_right [some (.loc n), s1, s2, s3, s4, s5, s6, s7, s8, s9, s10, s11, s12, s13] μ = m__law_pick μ [.loc n, .d (.list L3_law_right)] := by intros; kernel_rfl
def L4_law_right : List PyData := [.none, (.int 0), (.int 1), (.tuple [(.int 1)]), (.tuple [(.int 2), (.int 4)]), (.tuple [(.int (-1)), (.int 2)]), (.tuple [(.int 1), (.int 0)]), (.tuple [(.int 1), (.int (-2))]), (.list [(.int 1), (.int 2)]), (.tuple [(.bool true), (.int 2)]), (.str "1/2"), (.tuple [(.int 0), (.int 2)])]
theorem P_p12__law_right : ∀ (n : Nat) (s1 s2 s3 s4 s5 s6 s7 s8 s9 s10 s11 s12 s13 : Option Vw) (μ : Mu), p12__law_right [some (.loc n), s1, s2, s3, s4, s5, s6, s7, s8, s9, s10, s11, s12, s13] μ = m__law_pick μ [.loc n, .d (.list L4_law_right)] := by intros; kernel_rfl
def cv_v14__law_right : PyData := (.list [.none, (.int 0), (.list []), (.tuple [(.tuple [(.int 2), (.tuple [(.int 0), (.int 1)])])]), (.tuple [(.tuple [(.int 2), (.tuple [(.int 0), (.int 1)]), (.int 1)])]), (.tuple [(.tuple [(.int 2), (.tuple [(.int 0), (.int 1)]), (.int 2)])]), (.tuple [(.tuple [(.int (-1)), (.tuple [(.int 0), (.int 1)]), (.int 0)])]), (.tuple [(.tuple [(.int 2), (.tuple [(.int 2), (.int 4)]), (.int 0)])]), (.tuple [(.tuple [(.int 2), (.tuple [(.int 3), (.int 4)]), (.int 0)])])])
theorem F_v14__law_right : ∀ (s0 s1 s2 s3 s4 s5 s6 s7 s8 s9 s10 s11 s12 s13 : Option Vw), ∀ (μ : Mu), v14__law_right [s0, s1, s2, s3, s4, s5, s6, s7, s8, s9, s10, s11, s12, s13] μ = some (.ok (.d cv_v14__law_right) μ) := by (intros; kernel_rfl)
def L5_law_right : List PyData := [.none, (.int 0), (.list []), (.tuple [(.tuple [(.int 2), (.tuple [(.int 0), (.int 1)])])]), (.tuple [(.tuple [(.int 2), (.tuple [(.int 0), (.int 1)]), (.int 1)])]), (.tuple [(.tuple [(.int 2), (.tuple [(.int 0), (.int 1)]), (.int 2)])]), (.tuple [(.tuple [(.int (-1)), (.tuple [(.int 0), (.int 1)]), (.int 0)])]), (.tuple [(.tuple [(.int 2), (.tuple [(.int 2), (.int 4)]), (.int 0)])]), (.tuple [(.tuple [(.int 2), (.tuple [(.int 3), (.int 4)]), (.int 0)])]), (.tuple [(.tuple [(.int 2), (.int 0), (.int 0)])]), (.tuple [(.tuple [(.int 2), (.tuple [(.int 0), (.int 1)]), (.int 0)]), (.tuple [(.int 3), (.tuple [(.int 0), (.int 1)]), (.int 0)])]), (.tuple [(.tuple [(.bool true), (.tuple [(.int 0), (.int 1)]), (.int 0)])]), (.dict []), (.tuple [(.tuple [(.int 2), (.tuple [(.int 0), (.int 1)]), (.int 0)]), (.tuple [(.int 3), (.tuple [(.int 1), (.int 2)]), (.int 1)])])]
theorem P_p16__law_right : ∀ (n : Nat) (s1 s2 s3 s4 s5 s7 s8 s9 s10 s11 s12 s13 : Option Vw) (μ : Mu), p16__law_right [some (.loc n), s1, s2, s3, s4, s5, some (.d cv_v14__law_right), s7, s8, s9, s10, s11, s12, s13] μ = m__law_pick μ [.loc n, .d (.list L5_law_right)] := by intros; kernel_rfl
def cv_v18__law_right : PyData := (.list [])
theorem F_v18__law_right : ∀ (s0 s1 s2 s3 s4 s5 s6 s7 s8 s9 s10 s11 s12 s13 : Option Vw), ∀ (μ : Mu), v18__law_right [s0, s1, s2, s3, s4, s5, s6, s7, s8, s9, s10, s11, s12, s13] μ = some (.ok (.d cv_v18__law_right) μ) := by (intros; kernel_rfl)
def cv_v19__law_right : PyData := (.list [(.tuple [(fnD "moments"), (.str "run")]), (.tuple [(fnD "noticed"), (.str "run")]), (.tuple [(fnD "counters"), (.str "run")]), (.tuple [(fnD "ticking_fault"), (.str "run")]), (.tuple [(fnD "true_run"), (.str "run")])])
theorem F_v19__law_right : ∀ (s0 s1 s2 s3 s4 s5 s6 s7 s8 s9 s10 s11 s12 s13 : Option Vw), ∀ (μ : Mu), v19__law_right [s0, s1, s2, s3, s4, s5, s6, s7, s8, s9, s10, s11, s12, s13] μ = some (.ok (.d cv_v19__law_right) μ) := by (intros; kernel_rfl)
theorem F_h21__law_right_0 : ∀ x1 ∈ L1_law_right, ∀ (x3 x5 x4 x2 : PyData), ∀ (s0 s1 s6 s8 s9 s10 s13 : Option Vw), ∀ (μ : Mu), h21__law_right [s0, s1, some (.d x1), some (.d x2), some (.d x3), some (.d x4), s6, some (.d x5), s8, s9, s10, some (.d (fnD "moments")), some (.d (.str "run")), s13] μ = some (.ok (.d (.str "machine")) μ) := by (unfold L1_law_right; (repeat refine List.forall_mem_cons.mpr ⟨by (intros; kernel_rfl), ?_⟩); exact List.forall_mem_nil _)
theorem F_h23__law_right_0 : ∀ x2 ∈ L2_law_right, ∀ (x3 x5 x4 : PyData), ∀ (s0 s2 s6 s8 s9 s10 s13 : Option Vw), ∀ (μ : Mu), h23__law_right [s0, some (.d cv_v3__law_right), s2, some (.d x2), some (.d x3), some (.d x4), s6, some (.d x5), s8, s9, s10, some (.d (fnD "moments")), some (.d (.str "run")), s13] μ = some (.ok (.d (.str "operation")) μ) := by (unfold L2_law_right; (repeat refine List.forall_mem_cons.mpr ⟨by (intros; kernel_rfl), ?_⟩); exact List.forall_mem_nil _)
theorem F_h26__law_right_0 : ∀ x3 ∈ L3_law_right, ∀ (x5 x4 : PyData), ∀ (s0 s2 s3 s6 s8 s9 s10 s13 : Option Vw), ∀ (μ : Mu), h26__law_right [s0, some (.d cv_v3__law_right), s2, s3, some (.d x3), some (.d x4), s6, some (.d x5), s8, s9, s10, some (.d (fnD "moments")), some (.d (.str "run")), s13] μ = some (.ok (.d (.str ("number " ++ PyData.shown x3))) μ) := by (unfold L3_law_right; (repeat refine List.forall_mem_cons.mpr ⟨by (intros; kernel_rfl), ?_⟩); exact List.forall_mem_nil _)
theorem F_h29__law_right_0 : ∀ x4 ∈ L4_law_right, ∀ (x5 : PyData), ∀ (s0 s2 s3 s4 s6 s8 s9 s10 s13 : Option Vw), ∀ (μ : Mu), h29__law_right [s0, some (.d cv_v3__law_right), s2, s3, s4, some (.d x4), s6, some (.d x5), s8, s9, s10, some (.d (fnD "moments")), some (.d (.str "run")), s13] μ = some (.ok (.d (.str "fraction")) μ) := by (unfold L4_law_right; (repeat refine List.forall_mem_cons.mpr ⟨by (intros; kernel_rfl), ?_⟩); exact List.forall_mem_nil _)
theorem F_h33__law_right_0 : ∀ x5 ∈ L5_law_right, ∀ (s0 s2 s3 s4 s5 s6 s8 s9 s10 s13 : Option Vw), ∀ (μ : Mu), h33__law_right [s0, some (.d cv_v3__law_right), s2, s3, s4, s5, s6, some (.d x5), s8, s9, s10, some (.d (fnD "moments")), some (.d (.str "run")), s13] μ = some (.ok (.d (.str "run")) μ) := by (unfold L5_law_right; (repeat refine List.forall_mem_cons.mpr ⟨by (intros; kernel_rfl), ?_⟩); exact List.forall_mem_nil _)
theorem F_h21__law_right_1 : ∀ x1 ∈ L1_law_right, ∀ (x3 x5 x4 x2 : PyData), ∀ (s0 s1 s6 s8 s9 s10 s13 : Option Vw), ∀ (μ : Mu), h21__law_right [s0, s1, some (.d x1), some (.d x2), some (.d x3), some (.d x4), s6, some (.d x5), s8, s9, s10, some (.d (fnD "noticed")), some (.d (.str "run")), s13] μ = some (.ok (.d (.str "machine")) μ) := by (unfold L1_law_right; (repeat refine List.forall_mem_cons.mpr ⟨by (intros; kernel_rfl), ?_⟩); exact List.forall_mem_nil _)
theorem F_h23__law_right_1 : ∀ x2 ∈ L2_law_right, ∀ (x3 x5 x4 : PyData), ∀ (s0 s2 s6 s8 s9 s10 s13 : Option Vw), ∀ (μ : Mu), h23__law_right [s0, some (.d cv_v3__law_right), s2, some (.d x2), some (.d x3), some (.d x4), s6, some (.d x5), s8, s9, s10, some (.d (fnD "noticed")), some (.d (.str "run")), s13] μ = some (.ok (.d (.str "operation")) μ) := by (unfold L2_law_right; (repeat refine List.forall_mem_cons.mpr ⟨by (intros; kernel_rfl), ?_⟩); exact List.forall_mem_nil _)
theorem F_h26__law_right_1 : ∀ x3 ∈ L3_law_right, ∀ (x5 x4 : PyData), ∀ (s0 s2 s3 s6 s8 s9 s10 s13 : Option Vw), ∀ (μ : Mu), h26__law_right [s0, some (.d cv_v3__law_right), s2, s3, some (.d x3), some (.d x4), s6, some (.d x5), s8, s9, s10, some (.d (fnD "noticed")), some (.d (.str "run")), s13] μ = some (.ok (.d (.str ("number " ++ PyData.shown x3))) μ) := by (unfold L3_law_right; (repeat refine List.forall_mem_cons.mpr ⟨by (intros; kernel_rfl), ?_⟩); exact List.forall_mem_nil _)
theorem F_h29__law_right_1 : ∀ x4 ∈ L4_law_right, ∀ (x5 : PyData), ∀ (s0 s2 s3 s4 s6 s8 s9 s10 s13 : Option Vw), ∀ (μ : Mu), h29__law_right [s0, some (.d cv_v3__law_right), s2, s3, s4, some (.d x4), s6, some (.d x5), s8, s9, s10, some (.d (fnD "noticed")), some (.d (.str "run")), s13] μ = some (.ok (.d (.str "fraction")) μ) := by (unfold L4_law_right; (repeat refine List.forall_mem_cons.mpr ⟨by (intros; kernel_rfl), ?_⟩); exact List.forall_mem_nil _)
theorem F_h33__law_right_1 : ∀ x5 ∈ L5_law_right, ∀ (s0 s2 s3 s4 s5 s6 s8 s9 s10 s13 : Option Vw), ∀ (μ : Mu), h33__law_right [s0, some (.d cv_v3__law_right), s2, s3, s4, s5, s6, some (.d x5), s8, s9, s10, some (.d (fnD "noticed")), some (.d (.str "run")), s13] μ = some (.ok (.d (.str "run")) μ) := by (unfold L5_law_right; (repeat refine List.forall_mem_cons.mpr ⟨by (intros; kernel_rfl), ?_⟩); exact List.forall_mem_nil _)
theorem F_h21__law_right_2 : ∀ x1 ∈ L1_law_right, ∀ (x3 x5 x4 x2 : PyData), ∀ (s0 s1 s6 s8 s9 s10 s13 : Option Vw), ∀ (μ : Mu), h21__law_right [s0, s1, some (.d x1), some (.d x2), some (.d x3), some (.d x4), s6, some (.d x5), s8, s9, s10, some (.d (fnD "counters")), some (.d (.str "run")), s13] μ = some (.ok (.d (.str "machine")) μ) := by (unfold L1_law_right; (repeat refine List.forall_mem_cons.mpr ⟨by (intros; kernel_rfl), ?_⟩); exact List.forall_mem_nil _)
theorem F_h23__law_right_2 : ∀ x2 ∈ L2_law_right, ∀ (x3 x5 x4 : PyData), ∀ (s0 s2 s6 s8 s9 s10 s13 : Option Vw), ∀ (μ : Mu), h23__law_right [s0, some (.d cv_v3__law_right), s2, some (.d x2), some (.d x3), some (.d x4), s6, some (.d x5), s8, s9, s10, some (.d (fnD "counters")), some (.d (.str "run")), s13] μ = some (.ok (.d (.str "operation")) μ) := by (unfold L2_law_right; (repeat refine List.forall_mem_cons.mpr ⟨by (intros; kernel_rfl), ?_⟩); exact List.forall_mem_nil _)
theorem F_h26__law_right_2 : ∀ x3 ∈ L3_law_right, ∀ (x5 x4 : PyData), ∀ (s0 s2 s3 s6 s8 s9 s10 s13 : Option Vw), ∀ (μ : Mu), h26__law_right [s0, some (.d cv_v3__law_right), s2, s3, some (.d x3), some (.d x4), s6, some (.d x5), s8, s9, s10, some (.d (fnD "counters")), some (.d (.str "run")), s13] μ = some (.ok (.d (.str ("number " ++ PyData.shown x3))) μ) := by (unfold L3_law_right; (repeat refine List.forall_mem_cons.mpr ⟨by (intros; kernel_rfl), ?_⟩); exact List.forall_mem_nil _)
theorem F_h29__law_right_2 : ∀ x4 ∈ L4_law_right, ∀ (x5 : PyData), ∀ (s0 s2 s3 s4 s6 s8 s9 s10 s13 : Option Vw), ∀ (μ : Mu), h29__law_right [s0, some (.d cv_v3__law_right), s2, s3, s4, some (.d x4), s6, some (.d x5), s8, s9, s10, some (.d (fnD "counters")), some (.d (.str "run")), s13] μ = some (.ok (.d (.str "fraction")) μ) := by (unfold L4_law_right; (repeat refine List.forall_mem_cons.mpr ⟨by (intros; kernel_rfl), ?_⟩); exact List.forall_mem_nil _)
theorem F_h33__law_right_2 : ∀ x5 ∈ L5_law_right, ∀ (s0 s2 s3 s4 s5 s6 s8 s9 s10 s13 : Option Vw), ∀ (μ : Mu), h33__law_right [s0, some (.d cv_v3__law_right), s2, s3, s4, s5, s6, some (.d x5), s8, s9, s10, some (.d (fnD "counters")), some (.d (.str "run")), s13] μ = some (.ok (.d (.str "run")) μ) := by (unfold L5_law_right; (repeat refine List.forall_mem_cons.mpr ⟨by (intros; kernel_rfl), ?_⟩); exact List.forall_mem_nil _)
theorem F_h21__law_right_3 : ∀ x1 ∈ L1_law_right, ∀ (x3 x5 x4 x2 : PyData), ∀ (s0 s1 s6 s8 s9 s10 s13 : Option Vw), ∀ (μ : Mu), h21__law_right [s0, s1, some (.d x1), some (.d x2), some (.d x3), some (.d x4), s6, some (.d x5), s8, s9, s10, some (.d (fnD "ticking_fault")), some (.d (.str "run")), s13] μ = some (.ok (.d (.str "machine")) μ) := by (unfold L1_law_right; (repeat refine List.forall_mem_cons.mpr ⟨by (intros; kernel_rfl), ?_⟩); exact List.forall_mem_nil _)
theorem F_h23__law_right_3 : ∀ x2 ∈ L2_law_right, ∀ (x3 x5 x4 : PyData), ∀ (s0 s2 s6 s8 s9 s10 s13 : Option Vw), ∀ (μ : Mu), h23__law_right [s0, some (.d cv_v3__law_right), s2, some (.d x2), some (.d x3), some (.d x4), s6, some (.d x5), s8, s9, s10, some (.d (fnD "ticking_fault")), some (.d (.str "run")), s13] μ = some (.ok (.d (.str "operation")) μ) := by (unfold L2_law_right; (repeat refine List.forall_mem_cons.mpr ⟨by (intros; kernel_rfl), ?_⟩); exact List.forall_mem_nil _)
theorem F_h26__law_right_3 : ∀ x3 ∈ L3_law_right, ∀ (x5 x4 : PyData), ∀ (s0 s2 s3 s6 s8 s9 s10 s13 : Option Vw), ∀ (μ : Mu), h26__law_right [s0, some (.d cv_v3__law_right), s2, s3, some (.d x3), some (.d x4), s6, some (.d x5), s8, s9, s10, some (.d (fnD "ticking_fault")), some (.d (.str "run")), s13] μ = some (.ok (.d (.str ("number " ++ PyData.shown x3))) μ) := by (unfold L3_law_right; (repeat refine List.forall_mem_cons.mpr ⟨by (intros; kernel_rfl), ?_⟩); exact List.forall_mem_nil _)
theorem F_h29__law_right_3 : ∀ x4 ∈ L4_law_right, ∀ (x5 : PyData), ∀ (s0 s2 s3 s4 s6 s8 s9 s10 s13 : Option Vw), ∀ (μ : Mu), h29__law_right [s0, some (.d cv_v3__law_right), s2, s3, s4, some (.d x4), s6, some (.d x5), s8, s9, s10, some (.d (fnD "ticking_fault")), some (.d (.str "run")), s13] μ = some (.ok (.d (.str "fraction")) μ) := by (unfold L4_law_right; (repeat refine List.forall_mem_cons.mpr ⟨by (intros; kernel_rfl), ?_⟩); exact List.forall_mem_nil _)
theorem F_h33__law_right_3 : ∀ x5 ∈ L5_law_right, ∀ (s0 s2 s3 s4 s5 s6 s8 s9 s10 s13 : Option Vw), ∀ (μ : Mu), h33__law_right [s0, some (.d cv_v3__law_right), s2, s3, s4, s5, s6, some (.d x5), s8, s9, s10, some (.d (fnD "ticking_fault")), some (.d (.str "run")), s13] μ = some (.ok (.d (.str "run")) μ) := by (unfold L5_law_right; (repeat refine List.forall_mem_cons.mpr ⟨by (intros; kernel_rfl), ?_⟩); exact List.forall_mem_nil _)
theorem F_h21__law_right_4 : ∀ x1 ∈ L1_law_right, ∀ (x3 x5 x4 x2 : PyData), ∀ (s0 s1 s6 s8 s9 s10 s13 : Option Vw), ∀ (μ : Mu), h21__law_right [s0, s1, some (.d x1), some (.d x2), some (.d x3), some (.d x4), s6, some (.d x5), s8, s9, s10, some (.d (fnD "true_run")), some (.d (.str "run")), s13] μ = some (.ok (.d (.str "machine")) μ) := by (unfold L1_law_right; (repeat refine List.forall_mem_cons.mpr ⟨by (intros; kernel_rfl), ?_⟩); exact List.forall_mem_nil _)
theorem F_h23__law_right_4 : ∀ x2 ∈ L2_law_right, ∀ (x3 x5 x4 : PyData), ∀ (s0 s2 s6 s8 s9 s10 s13 : Option Vw), ∀ (μ : Mu), h23__law_right [s0, some (.d cv_v3__law_right), s2, some (.d x2), some (.d x3), some (.d x4), s6, some (.d x5), s8, s9, s10, some (.d (fnD "true_run")), some (.d (.str "run")), s13] μ = some (.ok (.d (.str "operation")) μ) := by (unfold L2_law_right; (repeat refine List.forall_mem_cons.mpr ⟨by (intros; kernel_rfl), ?_⟩); exact List.forall_mem_nil _)
theorem F_h26__law_right_4 : ∀ x3 ∈ L3_law_right, ∀ (x5 x4 : PyData), ∀ (s0 s2 s3 s6 s8 s9 s10 s13 : Option Vw), ∀ (μ : Mu), h26__law_right [s0, some (.d cv_v3__law_right), s2, s3, some (.d x3), some (.d x4), s6, some (.d x5), s8, s9, s10, some (.d (fnD "true_run")), some (.d (.str "run")), s13] μ = some (.ok (.d (.str ("number " ++ PyData.shown x3))) μ) := by (unfold L3_law_right; (repeat refine List.forall_mem_cons.mpr ⟨by (intros; kernel_rfl), ?_⟩); exact List.forall_mem_nil _)
theorem F_h29__law_right_4 : ∀ x4 ∈ L4_law_right, ∀ (x5 : PyData), ∀ (s0 s2 s3 s4 s6 s8 s9 s10 s13 : Option Vw), ∀ (μ : Mu), h29__law_right [s0, some (.d cv_v3__law_right), s2, s3, s4, some (.d x4), s6, some (.d x5), s8, s9, s10, some (.d (fnD "true_run")), some (.d (.str "run")), s13] μ = some (.ok (.d (.str "fraction")) μ) := by (unfold L4_law_right; (repeat refine List.forall_mem_cons.mpr ⟨by (intros; kernel_rfl), ?_⟩); exact List.forall_mem_nil _)
theorem F_h33__law_right_4 : ∀ x5 ∈ L5_law_right, ∀ (s0 s2 s3 s4 s5 s6 s8 s9 s10 s13 : Option Vw), ∀ (μ : Mu), h33__law_right [s0, some (.d cv_v3__law_right), s2, s3, s4, s5, s6, some (.d x5), s8, s9, s10, some (.d (fnD "true_run")), some (.d (.str "run")), s13] μ = some (.ok (.d (.str "run")) μ) := by (unfold L5_law_right; (repeat refine List.forall_mem_cons.mpr ⟨by (intros; kernel_rfl), ?_⟩); exact List.forall_mem_nil _)
theorem F_h21__law_right_5 : ∀ x1 ∈ L1_law_right, ∀ (x3 x5 x4 x2 : PyData), ∀ (s0 s1 s6 s8 s9 s10 s13 : Option Vw), ∀ (μ : Mu), h21__law_right [s0, s1, some (.d x1), some (.d x2), some (.d x3), some (.d x4), s6, some (.d x5), s8, s9, s10, some (.d (fnD "is_ticking")), some (.d (.str "fine")), s13] μ = some (.ok (.d (.str "machine")) μ) := by (unfold L1_law_right; (repeat refine List.forall_mem_cons.mpr ⟨by (intros; kernel_rfl), ?_⟩); exact List.forall_mem_nil _)
theorem F_h23__law_right_5 : ∀ x2 ∈ L2_law_right, ∀ (x3 x5 x4 : PyData), ∀ (s0 s2 s6 s8 s9 s10 s13 : Option Vw), ∀ (μ : Mu), h23__law_right [s0, some (.d cv_v3__law_right), s2, some (.d x2), some (.d x3), some (.d x4), s6, some (.d x5), s8, s9, s10, some (.d (fnD "is_ticking")), some (.d (.str "fine")), s13] μ = some (.ok (.d (.str "operation")) μ) := by (unfold L2_law_right; (repeat refine List.forall_mem_cons.mpr ⟨by (intros; kernel_rfl), ?_⟩); exact List.forall_mem_nil _)
theorem F_h26__law_right_5 : ∀ x3 ∈ L3_law_right, ∀ (x5 x4 : PyData), ∀ (s0 s2 s3 s6 s8 s9 s10 s13 : Option Vw), ∀ (μ : Mu), h26__law_right [s0, some (.d cv_v3__law_right), s2, s3, some (.d x3), some (.d x4), s6, some (.d x5), s8, s9, s10, some (.d (fnD "is_ticking")), some (.d (.str "fine")), s13] μ = some (.ok (.d (.str ("number " ++ PyData.shown x3))) μ) := by (unfold L3_law_right; (repeat refine List.forall_mem_cons.mpr ⟨by (intros; kernel_rfl), ?_⟩); exact List.forall_mem_nil _)
theorem F_h29__law_right_5 : ∀ x4 ∈ L4_law_right, ∀ (x5 : PyData), ∀ (s0 s2 s3 s4 s6 s8 s9 s10 s13 : Option Vw), ∀ (μ : Mu), h29__law_right [s0, some (.d cv_v3__law_right), s2, s3, s4, some (.d x4), s6, some (.d x5), s8, s9, s10, some (.d (fnD "is_ticking")), some (.d (.str "fine")), s13] μ = some (.ok (.d (.str "fraction")) μ) := by (unfold L4_law_right; (repeat refine List.forall_mem_cons.mpr ⟨by (intros; kernel_rfl), ?_⟩); exact List.forall_mem_nil _)
theorem F_h33__law_right_5 : ∀ x5 ∈ L5_law_right, ∀ (s0 s2 s3 s4 s5 s6 s8 s9 s10 s13 : Option Vw), ∀ (μ : Mu), h33__law_right [s0, some (.d cv_v3__law_right), s2, s3, s4, s5, s6, some (.d x5), s8, s9, s10, some (.d (fnD "is_ticking")), some (.d (.str "fine")), s13] μ = some (.ok (.d (.str "fine")) μ) := by (unfold L5_law_right; (repeat refine List.forall_mem_cons.mpr ⟨by (intros; kernel_rfl), ?_⟩); exact List.forall_mem_nil _)
def L6_law_right : List PyData := [.none, (.int 0), (.int 65), (.int (-1)), (.bool true), (.str "1"), (.tuple [(.int 1)])]
theorem P_p36__law_right : ∀ (n : Nat) (s1 s2 s3 s4 s5 s6 s7 s8 s9 s10 s11 s12 s13 : Option Vw) (μ : Mu), p36__law_right [some (.loc n), s1, s2, s3, s4, s5, s6, s7, s8, s9, s10, s11, s12, s13] μ = m__law_pick μ [.loc n, .d (.list L6_law_right)] := by intros; kernel_rfl
theorem F_h41__law_right : ∀ (s0 s2 s3 s4 s5 s6 s7 s8 s9 s10 s11 s12 s13 : Option Vw), ∀ (μ : Mu), h41__law_right [s0, some (.d cv_v3__law_right), s2, s3, s4, s5, s6, s7, s8, s9, s10, s11, s12, s13] μ = some (.ok (.d (.str "refused (0, 'low', 0)")) μ) := by (intros; kernel_rfl)
theorem F_h43__law_right : ∀ x6 ∈ L6_law_right, ∀ (x4 : PyData), ∀ (s0 s1 s2 s3 s4 s6 s7 s8 s9 s10 s11 s12 : Option Vw), ∀ (μ : Mu), h43__law_right [s0, s1, s2, s3, s4, some (.d x4), s6, s7, s8, s9, s10, s11, s12, some (.d x6)] μ = some (.ok (.d (.str ("number " ++ PyData.shown x6))) μ) := by (unfold L6_law_right; (repeat refine List.forall_mem_cons.mpr ⟨by (intros; kernel_rfl), ?_⟩); exact List.forall_mem_nil _)
theorem F_h45__law_right : ∀ x4 ∈ L4_law_right, ∀ (s0 s1 s2 s3 s4 s6 s7 s8 s9 s10 s11 s12 s13 : Option Vw), ∀ (μ : Mu), h45__law_right [s0, s1, s2, s3, s4, some (.d x4), s6, s7, s8, s9, s10, s11, s12, s13] μ = some (.ok (.d (.str "fraction")) μ) := by (unfold L4_law_right; (repeat refine List.forall_mem_cons.mpr ⟨by (intros; kernel_rfl), ?_⟩); exact List.forall_mem_nil _)
theorem R_law_right_3 : ∀ x ∈ L3_law_right, reprOk x = true := by (unfold L3_law_right; (repeat refine List.forall_mem_cons.mpr ⟨by (intros; kernel_rfl), ?_⟩); exact List.forall_mem_nil _)
theorem C_law_right_3_1 : ∀ x ∈ L3_law_right, catB "number " (PyData.shown x) = true := by (unfold L3_law_right; (repeat refine List.forall_mem_cons.mpr ⟨by (intros; kernel_rfl), ?_⟩); exact List.forall_mem_nil _)
theorem R_law_right_6 : ∀ x ∈ L6_law_right, reprOk x = true := by (unfold L6_law_right; (repeat refine List.forall_mem_cons.mpr ⟨by (intros; kernel_rfl), ?_⟩); exact List.forall_mem_nil _)
theorem C_law_right_6_2 : ∀ x ∈ L6_law_right, catB "number " (PyData.shown x) = true := by (unfold L6_law_right; (repeat refine List.forall_mem_cons.mpr ⟨by (intros; kernel_rfl), ?_⟩); exact List.forall_mem_nil _)
def cv_v4_law : PyData := (obD "Machine" [(.str "_clocks", (.int 1)), (.str "_limits", (.tuple [(.tuple [(.int 4)]), (.tuple [(.int 4)])])), (.str "_doors", (.tuple [(.tuple [(.int 0), (.tuple [(.tuple [(.int 1), (.int 2)])]), (.tuple [(.int 0)]), (.int 1)]), (.tuple [(.int 1), (.tuple [(.tuple [(.int 0), (.int 4)])]), (.tuple []), (.int 0)])]))])
theorem F_v4_law : ∀ (s0 s1 s2 s3 : Option Vw), ∀ (μ : Mu), v4_law [s0, s1, s2, s3] μ = some (.ok (.d cv_v4_law) μ) := by (intros; kernel_rfl)
theorem F_h9_law : ∀ (s0 s1 s3 : Option Vw), ∀ (μ : Mu), h9_law [s0, s1, some (.d cv_v4_law), s3] μ = some (.ok (.d (.str "fine")) μ) := by (intros; kernel_rfl)
theorem F_h15_law : ∀ (s0 s1 s3 : Option Vw), ∀ (μ : Mu), h15_law [s0, s1, some (.d cv_v4_law), s3] μ = some (.ok (.d (.str "fine")) μ) := by (intros; kernel_rfl)
theorem F_h20_law : ∀ (s0 s1 s3 : Option Vw), ∀ (μ : Mu), h20_law [s0, s1, some (.d cv_v4_law), s3] μ = some (.ok (.d (.str "fine")) μ) := by (intros; kernel_rfl)
end MR
end
section
set_option Elab.async false
set_option linter.all false
set_option maxHeartbeats 4000000
set_option exponentiation.threshold 30000
set_option maxRecDepth 100000
namespace MR
open PySem PySem.Spec PyProof.Rows L2 VY
open VL hiding SX tX xIf eLcC
theorem v_law_right {μ : Mu} {n : Nat} (d : Dice μ n) : ∃ μ', m__law_right μ [.loc n] = some (.ok (.d (.bool true)) μ') ∧ DU μ n μ' := by
  obtain ⟨x1, μ1, h1, u1, e1⟩ := v_pick d (ds := L1_law_right) (by simp [L1_law_right]) (by simp [L1_law_right])
  have q1 := fun s2 s3 s4 s5 s6 s7 s8 s9 s10 s11 s12 s13 => (P_p6__law_right  n s2 s3 s4 s5 s6 s7 s8 s9 s10 s11 s12 s13 μ).trans e1
  obtain ⟨x2, μ2, h2, u2, e2⟩ := v_pick (u1.dice d) (ds := L2_law_right) (by simp [L2_law_right]) (by simp [L2_law_right])
  have U2 := u1.trans u2
  have q2 := fun s1 s2 s3 s4 s5 s6 s7 s8 s9 s10 s11 s12 s13 => (P_p8__law_right  n s1 s2 s3 s4 s5 s6 s7 s8 s9 s10 s11 s12 s13 μ1).trans e2
  obtain ⟨x3, μ3, h3, u3, e3⟩ := v_pick (U2.dice d) (ds := L3_law_right) (by simp [L3_law_right]) (by simp [L3_law_right])
  have U3 := U2.trans u3
  have q3 := fun s1 s2 s3 s4 s5 s6 s7 s8 s9 s10 s11 s12 s13 => (P_p10__law_right  n s1 s2 s3 s4 s5 s6 s7 s8 s9 s10 s11 s12 s13 μ2).trans e3
  obtain ⟨x4, μ4, h4, u4, e4⟩ := v_pick (U3.dice d) (ds := L4_law_right) (by simp [L4_law_right]) (by simp [L4_law_right])
  have U4 := U3.trans u4
  have q4 := fun s1 s2 s3 s4 s5 s6 s7 s8 s9 s10 s11 s12 s13 => (P_p12__law_right  n s1 s2 s3 s4 s5 s6 s7 s8 s9 s10 s11 s12 s13 μ3).trans e4
  obtain ⟨x5, μ5, h5, u5, e5⟩ := v_pick (U4.dice d) (ds := L5_law_right) (by simp [L5_law_right]) (by simp [L5_law_right])
  have U5 := U4.trans u5
  have q5 := fun s1 s2 s3 s4 s5 s7 s8 s9 s10 s11 s12 s13 => (P_p16__law_right  n s1 s2 s3 s4 s5 s7 s8 s9 s10 s11 s12 s13 μ4).trans e5
  obtain ⟨x6, μ6, h6, u6, e6⟩ := v_pickA (U5.dice d) (ds := L6_law_right) (by simp [L6_law_right]) (by simp [L6_law_right])
  have U6 := U5.trans u6
  have q6 := fun s1 s2 s3 s4 s5 s6 s7 s8 s9 s10 s11 s12 s13 (ls : Mu) => (P_p36__law_right  n s1 s2 s3 s4 s5 s6 s7 s8 s9 s10 s11 s12 s13 (μ5 ++ ls)).trans (e6 ls)
  have qa6 := app_at2 u6.len
  have qb6 := app_set2 u6.len
  have f0 := F_v3__law_right  
  have f5 := F_v14__law_right  
  have f7 := F_v18__law_right  
  have f8 := F_v19__law_right  
  have f9 := F_h21__law_right_0 x1 h1 x3 x5 x4 x2
  have f10 := F_h23__law_right_0 x2 h2 x3 x5 x4
  have f11 := F_h26__law_right_0 x3 h3 x5 x4
  have f12 := F_h29__law_right_0 x4 h4 x5
  have f13 := F_h33__law_right_0 x5 h5 
  have f14 := F_h21__law_right_1 x1 h1 x3 x5 x4 x2
  have f15 := F_h23__law_right_1 x2 h2 x3 x5 x4
  have f16 := F_h26__law_right_1 x3 h3 x5 x4
  have f17 := F_h29__law_right_1 x4 h4 x5
  have f18 := F_h33__law_right_1 x5 h5 
  have f19 := F_h21__law_right_2 x1 h1 x3 x5 x4 x2
  have f20 := F_h23__law_right_2 x2 h2 x3 x5 x4
  have f21 := F_h26__law_right_2 x3 h3 x5 x4
  have f22 := F_h29__law_right_2 x4 h4 x5
  have f23 := F_h33__law_right_2 x5 h5 
  have f24 := F_h21__law_right_3 x1 h1 x3 x5 x4 x2
  have f25 := F_h23__law_right_3 x2 h2 x3 x5 x4
  have f26 := F_h26__law_right_3 x3 h3 x5 x4
  have f27 := F_h29__law_right_3 x4 h4 x5
  have f28 := F_h33__law_right_3 x5 h5 
  have f29 := F_h21__law_right_4 x1 h1 x3 x5 x4 x2
  have f30 := F_h23__law_right_4 x2 h2 x3 x5 x4
  have f31 := F_h26__law_right_4 x3 h3 x5 x4
  have f32 := F_h29__law_right_4 x4 h4 x5
  have f33 := F_h33__law_right_4 x5 h5 
  have f34 := F_h21__law_right_5 x1 h1 x3 x5 x4 x2
  have f35 := F_h23__law_right_5 x2 h2 x3 x5 x4
  have f36 := F_h26__law_right_5 x3 h3 x5 x4
  have f37 := F_h29__law_right_5 x4 h4 x5
  have f38 := F_h33__law_right_5 x5 h5 
  have f40 := F_h41__law_right  
  have f41 := F_h43__law_right x6 h6 x4
  have f42 := F_h45__law_right x4 h4 
  have r3 := R_law_right_3 x3 h3
  have c3_46 := C_law_right_3_1 x3 h3
  have r6 := R_law_right_6 x6 h6
  have c6_48 := C_law_right_6_2 x6 h6
  have ll := U6.len
  have e : ∃ l, b__law_right [some (.loc n), none, none, none, none, none, none, none, none, none, none, none, none, none] μ = some (.ok (.rt (.d (.bool true))) (μ6 ++ l)) := by
    unfold b__law_right
    refine ⟨?l, ?_⟩
    rotate_left
    refine seq_ok (by (simp [-xMet, cl_loc, cl_nil, isD, dn, up, app_at, app_set, app_tk, q1, q2, q3, q4, q5, qa6, qb6, q6, f0, f5, f7, f8, f9, f10, f11, f12, f13, f14, f15, f16, f17, f18, f19, f20, f21, f22, f23, f24, f25, f26, f27, f28, f29, f30, f31, f32, f33, f34, f35, f36, f37, f38, f40, f41, f42, r3, c3_46, r6, c6_48, w34__law_right, cv_v18__law_right]; try first | done | exact rfl | exact ⟨rfl, rfl⟩ | exact ⟨rfl, rfl, rfl⟩)) ?_
    refine seq_ok (by (simp [-xMet, cl_loc, cl_nil, isD, dn, up, app_at, app_set, app_tk, q1, q2, q3, q4, q5, qa6, qb6, q6, f0, f5, f7, f8, f9, f10, f11, f12, f13, f14, f15, f16, f17, f18, f19, f20, f21, f22, f23, f24, f25, f26, f27, f28, f29, f30, f31, f32, f33, f34, f35, f36, f37, f38, f40, f41, f42, r3, c3_46, r6, c6_48, w34__law_right, cv_v18__law_right]; try first | done | exact rfl | exact ⟨rfl, rfl⟩ | exact ⟨rfl, rfl, rfl⟩)) ?_
    refine seq_ok (by (simp [-xMet, cl_loc, cl_nil, isD, dn, up, app_at, app_set, app_tk, q1, q2, q3, q4, q5, qa6, qb6, q6, f0, f5, f7, f8, f9, f10, f11, f12, f13, f14, f15, f16, f17, f18, f19, f20, f21, f22, f23, f24, f25, f26, f27, f28, f29, f30, f31, f32, f33, f34, f35, f36, f37, f38, f40, f41, f42, r3, c3_46, r6, c6_48, w34__law_right, cv_v18__law_right]; try first | done | exact rfl | exact ⟨rfl, rfl⟩ | exact ⟨rfl, rfl, rfl⟩)) ?_
    refine seq_ok (by (simp [-xMet, cl_loc, cl_nil, isD, dn, up, app_at, app_set, app_tk, q1, q2, q3, q4, q5, qa6, qb6, q6, f0, f5, f7, f8, f9, f10, f11, f12, f13, f14, f15, f16, f17, f18, f19, f20, f21, f22, f23, f24, f25, f26, f27, f28, f29, f30, f31, f32, f33, f34, f35, f36, f37, f38, f40, f41, f42, r3, c3_46, r6, c6_48, w34__law_right, cv_v18__law_right]; try first | done | exact rfl | exact ⟨rfl, rfl⟩ | exact ⟨rfl, rfl, rfl⟩)) ?_
    refine seq_ok (by (simp [-xMet, cl_loc, cl_nil, isD, dn, up, app_at, app_set, app_tk, q1, q2, q3, q4, q5, qa6, qb6, q6, f0, f5, f7, f8, f9, f10, f11, f12, f13, f14, f15, f16, f17, f18, f19, f20, f21, f22, f23, f24, f25, f26, f27, f28, f29, f30, f31, f32, f33, f34, f35, f36, f37, f38, f40, f41, f42, r3, c3_46, r6, c6_48, w34__law_right, cv_v18__law_right]; try first | done | exact rfl | exact ⟨rfl, rfl⟩ | exact ⟨rfl, rfl, rfl⟩)) ?_
    refine seq_ok (by (simp [-xMet, cl_loc, cl_nil, isD, dn, up, app_at, app_set, app_tk, q1, q2, q3, q4, q5, qa6, qb6, q6, f0, f5, f7, f8, f9, f10, f11, f12, f13, f14, f15, f16, f17, f18, f19, f20, f21, f22, f23, f24, f25, f26, f27, f28, f29, f30, f31, f32, f33, f34, f35, f36, f37, f38, f40, f41, f42, r3, c3_46, r6, c6_48, w34__law_right, cv_v18__law_right]; try first | done | exact rfl | exact ⟨rfl, rfl⟩ | exact ⟨rfl, rfl, rfl⟩)) ?_
    refine seq_ok (by (simp [-xMet, cl_loc, cl_nil, isD, dn, up, app_at, app_set, app_tk, q1, q2, q3, q4, q5, qa6, qb6, q6, f0, f5, f7, f8, f9, f10, f11, f12, f13, f14, f15, f16, f17, f18, f19, f20, f21, f22, f23, f24, f25, f26, f27, f28, f29, f30, f31, f32, f33, f34, f35, f36, f37, f38, f40, f41, f42, r3, c3_46, r6, c6_48, w34__law_right, cv_v18__law_right]; try first | done | exact rfl | exact ⟨rfl, rfl⟩ | exact ⟨rfl, rfl, rfl⟩)) ?_
    refine seq_ok (by (simp [-xMet, cl_loc, cl_nil, isD, dn, up, app_at, app_set, app_tk, q1, q2, q3, q4, q5, qa6, qb6, q6, f0, f5, f7, f8, f9, f10, f11, f12, f13, f14, f15, f16, f17, f18, f19, f20, f21, f22, f23, f24, f25, f26, f27, f28, f29, f30, f31, f32, f33, f34, f35, f36, f37, f38, f40, f41, f42, r3, c3_46, r6, c6_48, w34__law_right, cv_v18__law_right]; try first | done | exact rfl | exact ⟨rfl, rfl⟩ | exact ⟨rfl, rfl, rfl⟩)) ?_
    refine seq_ok (by (simp [-xMet, cl_loc, cl_nil, isD, dn, up, app_at, app_set, app_tk, q1, q2, q3, q4, q5, qa6, qb6, q6, f0, f5, f7, f8, f9, f10, f11, f12, f13, f14, f15, f16, f17, f18, f19, f20, f21, f22, f23, f24, f25, f26, f27, f28, f29, f30, f31, f32, f33, f34, f35, f36, f37, f38, f40, f41, f42, r3, c3_46, r6, c6_48, w34__law_right, cv_v18__law_right]; try first | done | exact rfl | exact ⟨rfl, rfl⟩ | exact ⟨rfl, rfl, rfl⟩)) ?_
    refine seq_ok (for_ok (by (simp [-xMet, cl_loc, cl_nil, isD, dn, up, app_at, app_set, app_tk, q1, q2, q3, q4, q5, qa6, qb6, q6, f0, f5, f7, f8, f9, f10, f11, f12, f13, f14, f15, f16, f17, f18, f19, f20, f21, f22, f23, f24, f25, f26, f27, f28, f29, f30, f31, f32, f33, f34, f35, f36, f37, f38, f40, f41, f42, r3, c3_46, r6, c6_48, w34__law_right, cv_v18__law_right]; try first | done | exact rfl | exact ⟨rfl, rfl⟩ | exact ⟨rfl, rfl, rfl⟩)) (by (repeat refine forY_c (by (simp [-xMet, cl_loc, cl_nil, isD, dn, up, app_at, app_set, app_tk, q1, q2, q3, q4, q5, qa6, qb6, q6, f0, f5, f7, f8, f9, f10, f11, f12, f13, f14, f15, f16, f17, f18, f19, f20, f21, f22, f23, f24, f25, f26, f27, f28, f29, f30, f31, f32, f33, f34, f35, f36, f37, f38, f40, f41, f42, r3, c3_46, r6, c6_48, w34__law_right, cv_v18__law_right]; try first | done | exact rfl | exact ⟨rfl, rfl⟩ | exact ⟨rfl, rfl, rfl⟩)) (by (simp [-xMet, cl_loc, cl_nil, isD, dn, up, app_at, app_set, app_tk, q1, q2, q3, q4, q5, qa6, qb6, q6, f0, f5, f7, f8, f9, f10, f11, f12, f13, f14, f15, f16, f17, f18, f19, f20, f21, f22, f23, f24, f25, f26, f27, f28, f29, f30, f31, f32, f33, f34, f35, f36, f37, f38, f40, f41, f42, r3, c3_46, r6, c6_48, w34__law_right, cv_v18__law_right]; try first | done | exact rfl | exact ⟨rfl, rfl⟩ | exact ⟨rfl, rfl, rfl⟩)) ?_); exact forY_n)) ?_
    refine seq_ok (by (simp [-xMet, cl_loc, cl_nil, isD, dn, up, app_at, app_set, app_tk, q1, q2, q3, q4, q5, qa6, qb6, q6, f0, f5, f7, f8, f9, f10, f11, f12, f13, f14, f15, f16, f17, f18, f19, f20, f21, f22, f23, f24, f25, f26, f27, f28, f29, f30, f31, f32, f33, f34, f35, f36, f37, f38, f40, f41, f42, r3, c3_46, r6, c6_48, w34__law_right, cv_v18__law_right]; try first | done | exact rfl | exact ⟨rfl, rfl⟩ | exact ⟨rfl, rfl, rfl⟩)) ?_
    refine seq_ok (by (simp [-xMet, cl_loc, cl_nil, isD, dn, up, app_at, app_set, app_tk, q1, q2, q3, q4, q5, qa6, qb6, q6, f0, f5, f7, f8, f9, f10, f11, f12, f13, f14, f15, f16, f17, f18, f19, f20, f21, f22, f23, f24, f25, f26, f27, f28, f29, f30, f31, f32, f33, f34, f35, f36, f37, f38, f40, f41, f42, r3, c3_46, r6, c6_48, w34__law_right, cv_v18__law_right]; try first | done | exact rfl | exact ⟨rfl, rfl⟩ | exact ⟨rfl, rfl, rfl⟩)) ?_
    refine seq_ok (by (simp [-xMet, cl_loc, cl_nil, isD, dn, up, app_at, app_set, app_tk, q1, q2, q3, q4, q5, qa6, qb6, q6, f0, f5, f7, f8, f9, f10, f11, f12, f13, f14, f15, f16, f17, f18, f19, f20, f21, f22, f23, f24, f25, f26, f27, f28, f29, f30, f31, f32, f33, f34, f35, f36, f37, f38, f40, f41, f42, r3, c3_46, r6, c6_48, w34__law_right, cv_v18__law_right]; try first | done | exact rfl | exact ⟨rfl, rfl⟩ | exact ⟨rfl, rfl, rfl⟩)) ?_
    refine seq_ok (by (simp [-xMet, cl_loc, cl_nil, isD, dn, up, app_at, app_set, app_tk, q1, q2, q3, q4, q5, qa6, qb6, q6, f0, f5, f7, f8, f9, f10, f11, f12, f13, f14, f15, f16, f17, f18, f19, f20, f21, f22, f23, f24, f25, f26, f27, f28, f29, f30, f31, f32, f33, f34, f35, f36, f37, f38, f40, f41, f42, r3, c3_46, r6, c6_48, w34__law_right, cv_v18__law_right]; try first | done | exact rfl | exact ⟨rfl, rfl⟩ | exact ⟨rfl, rfl, rfl⟩)) ?_
    (simp [-xMet, cl_loc, cl_nil, isD, dn, up, app_at, app_set, app_tk, q1, q2, q3, q4, q5, qa6, qb6, q6, f0, f5, f7, f8, f9, f10, f11, f12, f13, f14, f15, f16, f17, f18, f19, f20, f21, f22, f23, f24, f25, f26, f27, f28, f29, f30, f31, f32, f33, f34, f35, f36, f37, f38, f40, f41, f42, r3, c3_46, r6, c6_48, w34__law_right, cv_v18__law_right, q20__law_right, q22__law_right, q25__law_right, q28__law_right, q32__law_right, q40__law_right, q42__law_right, q44__law_right, wipeR, VC.eLc, VC.lcM, sok0, PyData.eqv, PyData.eqvAll, PyData.plain, PyData.plainAll, PyData.depth, PyData.depthAll]; try first | done | exact rfl | exact ⟨rfl, rfl⟩ | exact ⟨rfl, rfl, rfl⟩)
  obtain ⟨l, e⟩ := e
  refine ⟨μ6, ?_, U6⟩
  have := fnY_rt (n := 14) (ws := [.loc n]) e
  rw [← ll, List.take_left] at this
  exact this
theorem law_true (ns : List Int) (hl : ns.length ≤ 63) : ∃ μ', m_law [] [.kl ns] = some (.ok (.d (.bool true)) μ') := by
  obtain ⟨mx, hmx⟩ : ∃ mx, mx = (if (if ((ns.length : Nat) : Int) < 4 then ((ns.length : Nat) : Int) else 4) > 1 then (if ((ns.length : Nat) : Int) < 4 then ((ns.length : Nat) : Int) else 4) else 1) := ⟨_, rfl⟩
  obtain ⟨ρ2, μ2, e2, z1, er, _⟩ := forY_run (t := tNm 1) (body := w1_law) (all := rngD 0 mx.toNat)
    (fun ds ρ μ' => ∃ z1, ρ = [some (.kl ns), z1, none, none] ∧ ∀ d ∈ ds, ∃ j : Int, d = .int j ∧ 0 ≤ j)
    (fun d ds ρ μ ⟨z1, er, hd⟩ => by
      subst er
      obtain ⟨j, rfl, hj⟩ := hd d (by simp)
      obtain ⟨a, b, ed⟩ := v_dice ns j hj
      have dd : Dice (μ ++ [[.int a, .int b, .int 0]]) μ.length := ⟨a, b, 0, by simp⟩
      obtain ⟨μ3, e3, u3⟩ := v_law_right dd
      refine ⟨_, _, μ3, rfl, ?_, some (.d (.int j)), rfl, fun x hx => hd x (List.mem_cons_of_mem _ hx)⟩
      unfold w1_law
      simp [cl_d, isD, ed, cl_loc, e3]; try first | done | exact rfl | exact ⟨rfl, rfl⟩ | exact ⟨rfl, rfl, rfl⟩)
    (rngD 0 mx.toNat) [some (.kl ns), none, none, none] [] ⟨none, rfl, fun d hd => by
      obtain ⟨i, hi⟩ := List.getElem?_of_mem hd
      obtain ⟨_, rfl⟩ := rngD_get hi
      exact ⟨_, rfl, by omega⟩⟩
  subst er
  have hb : VC.rgB 0 mx = true := by
    have : 0 ≤ mx ∧ mx ≤ 100 := by rw [hmx]; split <;> (try split) <;> omega
    exact VC.rgB_iff.mpr (rgOk_of (by decide) (by decide) (by omega) (by omega))
  have f0 := F_v4_law
  have f1 := F_h9_law
  have f2 := F_h15_law
  have f3 := F_h20_law
  have e : ∃ μ', b_law [some (.kl ns), none, none, none] [] = some (.ok (.rt (.d (.bool true))) μ') := by
    unfold b_law
    refine ⟨?l, ?_⟩
    rotate_left
    refine seq_ok (for_ok (μ0 := []) (ds := rngD 0 mx.toNat) (by
      simp only [gt_iff_lt] at hmx
      simp [VC.iRg1, dn]
      rw [← hmx]
      simp [hb]) e2) ?_
    refine seq_ok (by (simp [-xMet, cl_loc, cl_nil, isD, dn, up, app_at, app_set, app_tk, f0, f1, f2, f3]; try first | done | exact rfl | exact ⟨rfl, rfl⟩ | exact ⟨rfl, rfl, rfl⟩)) ?_
    refine seq_ok (by (simp [-xMet, cl_loc, cl_nil, isD, dn, up, app_at, app_set, app_tk, f0, f1, f2, f3]; try first | done | exact rfl | exact ⟨rfl, rfl⟩ | exact ⟨rfl, rfl, rfl⟩)) ?_
    refine seq_ok (by (simp [-xMet, cl_loc, cl_nil, isD, dn, up, app_at, app_set, app_tk, f0, f1, f2, f3]; try first | done | exact rfl | exact ⟨rfl, rfl⟩ | exact ⟨rfl, rfl, rfl⟩)) ?_
    refine seq_ok (by (simp [-xMet, cl_loc, cl_nil, isD, dn, up, app_at, app_set, app_tk, f0, f1, f2, f3]; try first | done | exact rfl | exact ⟨rfl, rfl⟩ | exact ⟨rfl, rfl, rfl⟩)) ?_
    (simp [-xMet, cl_loc, cl_nil, isD, dn, up, app_at, app_set, app_tk, f0, f1, f2, f3, q14_law, q19_law, q8_law, wipeR, VC.eLc, VC.lcM, sok0, PyData.eqv, PyData.eqvAll, PyData.plain, PyData.plainAll, PyData.depth, PyData.depthAll]; try first | done | exact rfl | exact ⟨rfl, rfl⟩ | exact ⟨rfl, rfl, rfl⟩)
  obtain ⟨μ', e⟩ := e
  exact ⟨_, fnY_rt (n := 4) (ws := [.kl ns]) e⟩
end MR
end
section
set_option Elab.async false
set_option linter.all false
set_option maxRecDepth 100000
set_option maxHeartbeats 0
namespace MR
open PySem PySem.Spec PyProof.Rows L2 VY LamX
open VL hiding SX tX xIf eLcC
def clsM (ci j : Nat) : Stmt := match PySem.Challenge.pw_anymargin_k59_errors_of_ticking_runs.main.body.getD ci (.Pass ⟨0, 0, 0, 0⟩) with
  | .ClassDef _ _ _ b _ _ _ _ _ _ _ => b.getD j (.Pass ⟨0, 0, 0, 0⟩)
  | s => s
def top (i : Nat) : Stmt := match i with
  | 1000 => clsM 36 0
  | 1001 => clsM 36 1
  | 1002 => clsM 36 2
  | 1003 => clsM 36 3
  | 1004 => clsM 36 4
  | 1005 => clsM 36 5
  | 1006 => clsM 36 6
  | 1007 => clsM 36 7
  | i => PySem.Challenge.pw_anymargin_k59_errors_of_ticking_runs.main.body.getD i (.Pass ⟨0, 0, 0, 0⟩)
abbrev FnP (K : PySem.W.Frag) (x : Str) (i : Nat) : Prop := ∃ fd, FunD K x x (defArgs (top i)) (defBody (top i)) (defScope (top i)) [] [] (He.ga K x) fd
/-- what the top says of names -/
structure Txt (K : PySem.W.Frag) (mg : Str → Option Value) : Prop where
  n_abs : mg "abs" = none
  n_all : mg "all" = none
  n_bool : mg "bool" = none
  n_int : mg "int" = none
  n_isinstance : mg "isinstance" = none
  n_len : mg "len" = none
  n_max : mg "max" = none
  n_min : mg "min" = none
  n_range : mg "range" = none
  n_repr : mg "repr" = none
  n_tuple : mg "tuple" = none
  n_zip : mg "zip" = none
  i_GREATEST : ∃ t, mg "GREATEST" = some (.int 999999999999999999999999999999999999999999999999999999999999 t)
  i_MOST_CLOCKS : ∃ t, mg "MOST_CLOCKS" = some (.int 3 t)
  i_MOST_DOORS : ∃ t, mg "MOST_DOORS" = some (.int 12 t)
  i_MOST_M : ∃ t, mg "MOST_M" = some (.int 64 t)
  i_MOST_NUMBER : ∃ t, mg "MOST_NUMBER" = some (.int 4 t)
  i_MOST_ROOMS : ∃ t, mg "MOST_ROOMS" = some (.int 6 t)
  i_MOST_STEPS : ∃ t, mg "MOST_STEPS" = some (.int 20000 t)
  t_WORDS : mg "WORDS" = some (.ref (He.ga K "WORDS")) ∧ ∀ A H, Da K A H (.tuple [(.str "stay"), (.str "low"), (.str "high"), (.str "enter")]) (.ref (He.ga K "WORDS"))
  t_ZERO : mg "ZERO" = some (.ref (He.ga K "ZERO")) ∧ ∀ A H, Da K A H (.tuple [(.int 0), (.int 1)]) (.ref (He.ga K "ZERO"))
  g_gcd : mg "gcd" = some (.builtin "math.gcd")
  f_counters : mg "counters" = some (.ref (He.ga K "counters"))
  f_is_ticking : mg "is_ticking" = some (.ref (He.ga K "is_ticking"))
  f_moments : mg "moments" = some (.ref (He.ga K "moments"))
  f_noticed : mg "noticed" = some (.ref (He.ga K "noticed"))
  f_ticking_fault : mg "ticking_fault" = some (.ref (He.ga K "ticking_fault"))
  f_true_run : mg "true_run" = some (.ref (He.ga K "true_run"))
  ob : ObF K OCs
  na__clocks : ∀ C ∈ OCs, NoAttr K (He.ga K C) "_clocks"
  na__doors : ∀ C ∈ OCs, NoAttr K (He.ga K C) "_doors"
  na__limits : ∀ C ∈ OCs, NoAttr K (He.ga K C) "_limits"
  g_Machine : mg "Machine" = some (.ref (He.ga K "Machine"))
  mk_Machine : Mk K (He.ga K "Machine") (He.ma K (He.ga K "Machine") "__init__")
  pr_Machine_doors : PropOf K (He.ga K "Machine") "doors" (He.ma K (He.ga K "Machine") "doors") (He5.wf K (He.ga K "Machine") "property" "doors")
  pr_Machine_clocks : PropOf K (He.ga K "Machine") "clocks" (He.ma K (He.ga K "Machine") "clocks") (He5.wf K (He.ga K "Machine") "property" "clocks")
  pr_Machine_limits : PropOf K (He.ga K "Machine") "limits" (He.ma K (He.ga K "Machine") "limits") (He5.wf K (He.ga K "Machine") "property" "limits")
  own_InvalidFraction : OwnE K mg "InvalidFraction"
  own_InvalidMachine : OwnE K mg "InvalidMachine"
  own_InvalidOperation : OwnE K mg "InvalidOperation"
  own_InvalidRun : OwnE K mg "InvalidRun"
  low_InvalidNumber : LowC K mg "InvalidNumber" "given" bmI "IndexError.__new__" (He.ga K "InvalidNumber") (He.ma K (He.ga K "InvalidNumber") "__init__")
  low_Refused : LowC K mg "Refused" "reason" bmA "ArithmeticError.__new__" (He.ga K "Refused") (He.ma K (He.ga K "Refused") "__init__")
  exm : ∀ y ∈ CLs, ∀ z ∈ CLs, PySem.W.exmOne K (.ref (He.ga K y)) (.ref (He.ga K z)) = some (decide (y = z))
  M__law_met : ∃ cdv, MetD K mg "_law_met" "call" ["call", "error"] (defScope (top 73)) (defBody (top 73)) (He.ga K "_law_met") cdv
  tabU : ∀ p ∈ LawTabs.T K, ∀ q ∈ LawTabs.T K, p.1 = q.1 → p.2 = q.2
abbrev N__law_met : List Str := ["call", "error"]
theorem S__law_met : FnScope ["call", "error"] ["call"] (defScope (top 73)) := ⟨rfl, rfl, rfl, by decide +kernel, rfl, by decide +kernel, by decide +kernel⟩
theorem HC__law_met : ∀ h ∈ h__law_met, h.cls ∈ CLs := by
  intro h hh
  simp only [h__law_met, List.mem_cons, List.mem_nil_iff, or_false] at hh
  rcases hh with rfl | rfl | rfl | rfl | rfl | rfl <;> simp [Hd.cls, CLs]
theorem met__law_met {X : Cx} {k : Nat} (T : Txt X.K X.mg) (hr : RoomG (k + 1) X.A) {cdg : Value} {q : Str} : GivesTo X N__law_met "_law_met" (defScope (top 73)) (He.ga X.K "_law_met") cdg (defBody (top 73)) "call" q (TTm X.K h__law_met fine__law_met) :=
  met_gives S__law_met.nd (by intro h hh; simp only [h__law_met, List.mem_cons, List.mem_nil_iff, or_false] at hh; rcases hh with rfl | rfl | rfl | rfl | rfl | rfl <;> first | trivial | decide) (fun _ => rfl) (fun s H => (.only (x := "InvalidMachine") (c := .ref (He.ga X.K "InvalidMachine")) ⟨rfl, by decide, .inl T.own_InvalidMachine.gl⟩ (fun _ _ _ _ _ _ _ => tz_ret (tz_str stb_true))
    (.only (x := "InvalidFraction") (c := .ref (He.ga X.K "InvalidFraction")) ⟨rfl, by decide, .inl T.own_InvalidFraction.gl⟩ (fun _ _ _ _ _ _ _ => tz_ret (tz_str stb_true))
    (.only (x := "InvalidRun") (c := .ref (He.ga X.K "InvalidRun")) ⟨rfl, by decide, .inl T.own_InvalidRun.gl⟩ (fun _ _ _ _ _ _ _ => tz_ret (tz_str stb_true))
    (.only (x := "InvalidOperation") (c := .ref (He.ga X.K "InvalidOperation")) ⟨rfl, by decide, .inl T.own_InvalidOperation.gl⟩ (fun _ _ _ _ _ _ _ => tz_ret (tz_str stb_true))
    (.named (x := "InvalidNumber") (n := "error") (i := 1) (c := .ref (He.ga X.K "InvalidNumber")) ⟨rfl, by decide, .inl T.low_InvalidNumber.gC⟩ rfl rfl (fun a oe cls d pn hz hf => tz_named fun p q h => by
      split at h
      · rename_i hok
        cases h
        exact tz_ret (tz_cat stb_err (tz_str stb_err) (tz_repr (hg := by exact (hr.deeper default).gd) (hu := by have h1 := hu200 (hr.deeper default).r; exact h1) (h := (tz_err T.low_InvalidNumber hz hf)) (ok := rok1 hok) (hm := T.n_repr) (hZ := stb_err)) (rok2 hok))
      · cases h)
    (.named (x := "Refused") (n := "error") (i := 1) (c := .ref (He.ga X.K "Refused")) ⟨rfl, by decide, .inl T.low_Refused.gC⟩ rfl rfl (fun a oe cls d pn hz hf => tz_named fun p q h => by
      split at h
      · rename_i hok
        cases h
        exact tz_ret (tz_cat stb_err (tz_str stb_err) (tz_repr (hg := by exact (hr.deeper default).gd) (hu := by have h1 := hu200 (hr.deeper default).r; exact h1) (h := (tz_err T.low_Refused hz hf)) (ok := rok1 hok) (hm := T.n_repr) (hZ := stb_err)) (rok2 hok))
      · cases h)
    .nil))))))) (fun s H => (tz_str stb_true))
section
variable {P : Program} {w : World} {K : PySem.W.Frag} {mg : Str → Option Value} {base : Heap}
abbrev N_is_number : List Str := ["value"]
theorem S_is_number : FnScope ["value"] ["value"] (defScope (top 12)) := ⟨rfl, rfl, rfl, by decide +kernel, rfl, by decide +kernel, by decide +kernel⟩
theorem c_is_number (T : Txt K mg) (hf : mg "is_number" = some (.ref (He.ga K "is_number"))) (F : FnP K "is_number" 12)  : CalY P w K mg base 1 "is_number" 1 m_is_number := by
  obtain ⟨fd, F⟩ := F
  refine calY_ok false (k := 0) hf F S_is_number (fun _ _ _ _ _ _ us hl => match us, hl with | [_], _ => rfl) (fun cdv A outer s H E hr => ?_)
  exact (yss_one (ys_ret (yj_and (yj_isB T.ob "int" (by decide +kernel) (by decide +kernel) T.n_isinstance T.n_int (yj_var 0) (by decide +kernel)) (yj_and (yj_notT (yj_isB T.ob "bool" (by decide +kernel) (by decide +kernel) T.n_isinstance T.n_bool (yj_var 0) (by decide +kernel))) (yj_one (yj_chain op_le qLe op_le qLe (yj_neg (yj_c (ej_gint T.i_GREATEST))) (yj_var 0) (yj_c (ej_gint T.i_GREATEST))))))))
abbrev N_is_from_to : List Str := ["value", "low", "high"]
theorem S_is_from_to : FnScope ["value", "low", "high"] ["value", "low", "high"] (defScope (top 13)) := ⟨rfl, rfl, rfl, by decide +kernel, rfl, by decide +kernel, by decide +kernel⟩
theorem c_is_from_to (T : Txt K mg) (hf : mg "is_from_to" = some (.ref (He.ga K "is_from_to"))) (F : FnP K "is_from_to" 13) (c_is_number : CalY P w K mg base 1 "is_number" 1 m_is_number) : CalY P w K mg base 2 "is_from_to" 3 m_is_from_to := by
  obtain ⟨fd, F⟩ := F
  refine calY_ok false (k := 1) hf F S_is_from_to (fun _ _ _ _ _ _ us hl => match us, hl with | [_, _, _], _ => rfl) (fun cdv A outer s H E hr => ?_)
  exact (yss_one (ys_ret (yj_and (yj_call (takes_of rfl rfl rfl rfl) (c_is_number.mono (by decide)) hr (yaj_cons (yj_var 0) yaj_nil)) (yj_one (yj_chain op_le qLe op_le qLe (yj_var 1) (yj_var 0) (yj_var 2))))))
abbrev N_is_row : List Str := ["many", "value"]
theorem S_is_row : FnScope ["many", "value"] ["many", "value"] (defScope (top 16)) := ⟨rfl, rfl, rfl, by decide +kernel, rfl, by decide +kernel, by decide +kernel⟩
theorem c_is_row (T : Txt K mg) (hf : mg "is_row" = some (.ref (He.ga K "is_row"))) (F : FnP K "is_row" 16)  : CalY P w K mg base 1 "is_row" 2 m_is_row := by
  obtain ⟨fd, F⟩ := F
  refine calY_ok false (k := 0) hf F S_is_row (fun _ _ _ _ _ _ us hl => match us, hl with | [_, _], _ => rfl) (fun cdv A outer s H E hr => ?_)
  exact (yss_one (ys_ret (yj_and (yj_isB T.ob "tuple" (by decide +kernel) (by decide +kernel) T.n_isinstance T.n_tuple (yj_var 1) (by decide +kernel)) (yj_one (yj_cmp (op_eqP (hu200 hr.r)) oEq_ok (yj_bi call_len oLen_ok T.n_len (yaj_cons (yj_var 1) yaj_nil) (by decide +kernel)) (yj_var 0))))))
abbrev N_are_numbers : List Str := ["many", "low", "high", "value", "member"]
theorem S_are_numbers : FnScope ["many", "low", "high", "value", "member"] ["many", "low", "high", "value"] (defScope (top 15)) := ⟨rfl, rfl, rfl, by decide +kernel, rfl, by decide +kernel, by decide +kernel⟩
theorem c_are_numbers (T : Txt K mg) (hf : mg "are_numbers" = some (.ref (He.ga K "are_numbers"))) (F : FnP K "are_numbers" 15) (c_is_from_to : CalY P w K mg base 2 "is_from_to" 3 m_is_from_to) (c_is_row : CalY P w K mg base 1 "is_row" 2 m_is_row) : CalY P w K mg base 3 "are_numbers" 4 m_are_numbers := by
  obtain ⟨fd, F⟩ := F
  refine calY_ok false (k := 2) hf F S_are_numbers (fun _ _ _ _ _ _ us hl => match us, hl with | [_, _, _, _], _ => rfl) (fun cdv A outer s H E hr => ?_)
  exact (yss_one (ys_ret (yj_and (yj_call (takes_of rfl rfl rfl rfl) (c_is_row.mono (by decide)) hr (yaj_cons (yj_var 0) (yaj_cons (yj_var 3) yaj_nil))) (yj_one (yj_bi (cr_all rfl) oAll_ok T.n_all (yaj_cons (upLc (ej_lc (own := [("member", 4)]) rfl S_are_numbers.nd (ij_seq (dnE (W := wF) (yj_var 3))) (blkOk_by (N := N_are_numbers) (sc := defScope (top 15)) (by decide +kernel)) (by decide) (fun _ _ _ _ _ => (gj_nm 4 S_are_numbers.nd)) (fun _ _ _ _ _ => tsj_nil) (fun _ _ _ _ _ => (dnE (W := wF) (yj_call takesF (c_is_from_to.mono (by decide)) hr (yaj_cons (yj_var 4) (yaj_cons (yj_var 1) (yaj_cons (yj_var 2) yaj_nil)))))))) yaj_nil) (by decide +kernel))))))
abbrev N_are_limits : List Str := ["clocks", "value"]
theorem S_are_limits : FnScope ["clocks", "value"] ["clocks", "value"] (defScope (top 34)) := ⟨rfl, rfl, rfl, by decide +kernel, rfl, by decide +kernel, by decide +kernel⟩
theorem c_are_limits (T : Txt K mg) (hf : mg "are_limits" = some (.ref (He.ga K "are_limits"))) (F : FnP K "are_limits" 34) (c_are_numbers : CalY P w K mg base 3 "are_numbers" 4 m_are_numbers) : CalY P w K mg base 4 "are_limits" 2 m_are_limits := by
  obtain ⟨fd, F⟩ := F
  refine calY_ok false (k := 3) hf F S_are_limits (fun _ _ _ _ _ _ us hl => match us, hl with | [_, _], _ => rfl) (fun cdv A outer s H E hr => ?_)
  exact (yss_one (ys_ret (yj_call (takes_of rfl rfl rfl rfl) (c_are_numbers.mono (by decide)) hr (yaj_cons (yj_var 0) (yaj_cons (yj_c ej_int) (yaj_cons (yj_c (ej_gint T.i_MOST_NUMBER)) (yaj_cons (yj_var 1) yaj_nil)))))))
abbrev N_are_guards : List Str := ["clocks", "most", "value", "pair"]
theorem S_are_guards : FnScope ["clocks", "most", "value", "pair"] ["clocks", "most", "value"] (defScope (top 18)) := ⟨rfl, rfl, rfl, by decide +kernel, rfl, by decide +kernel, by decide +kernel⟩
theorem c_are_guards (T : Txt K mg) (hf : mg "are_guards" = some (.ref (He.ga K "are_guards"))) (F : FnP K "are_guards" 18) (c_are_numbers : CalY P w K mg base 3 "are_numbers" 4 m_are_numbers) (c_is_row : CalY P w K mg base 1 "is_row" 2 m_is_row) : CalY P w K mg base 4 "are_guards" 3 m_are_guards := by
  obtain ⟨fd, F⟩ := F
  refine calY_ok false (k := 3) hf F S_are_guards (fun _ _ _ _ _ _ us hl => match us, hl with | [_, _, _], _ => rfl) (fun cdv A outer s H E hr => ?_)
  exact (yss_one (ys_ret (yj_and (yj_call (takes_of rfl rfl rfl rfl) (c_is_row.mono (by decide)) hr (yaj_cons (yj_var 0) (yaj_cons (yj_var 2) yaj_nil))) (yj_one (yj_bi (cr_all rfl) oAll_ok T.n_all (yaj_cons (upLc (ej_lc (own := [("pair", 3)]) rfl S_are_guards.nd (ij_seq (dnE (W := wF) (yj_var 2))) (blkOk_by (N := N_are_guards) (sc := defScope (top 18)) (by decide +kernel)) (by decide) (fun _ _ _ _ _ => (gj_nm 3 S_are_guards.nd)) (fun _ _ _ _ _ => tsj_nil) (fun _ _ _ _ _ => (dnE (W := wF) (yj_and (yj_call takesF (c_are_numbers.mono (by decide)) hr (yaj_cons (yj_c ej_int) (yaj_cons (yj_c ej_int) (yaj_cons (yj_var 1) (yaj_cons (yj_var 3) yaj_nil))))) (yj_one (yj_cmp op_le qLe (yj_item (yj_var 3) (yj_c ej_int)) (yj_item (yj_var 3) (yj_c ej_int))))))))) yaj_nil) (by decide +kernel))))))
abbrev N_is_ascending : List Str := ["size", "value", "ahead", "member"]
theorem S_is_ascending : FnScope ["size", "value", "ahead", "member"] ["size", "value"] (defScope (top 17)) := ⟨rfl, rfl, rfl, by decide +kernel, rfl, by decide +kernel, by decide +kernel⟩
theorem c_is_ascending (T : Txt K mg) (hf : mg "is_ascending" = some (.ref (He.ga K "is_ascending"))) (F : FnP K "is_ascending" 17)  : CalY P w K mg base 1 "is_ascending" 2 m_is_ascending := by
  obtain ⟨fd, F⟩ := F
  refine calY_ok false (k := 0) hf F S_is_ascending (fun _ _ _ _ _ _ us hl => match us, hl with | [_, _], _ => rfl) (fun cdv A outer s H E hr => ?_)
  exact (yss_cons (ys_if (zj_not (zj_tru (yj_isB T.ob "tuple" (by decide +kernel) (by decide +kernel) T.n_isinstance T.n_tuple (yj_var 1) (by decide +kernel)))) (yss_one (ys_ret (yj_c ej_bl))) yss_nil)
    (yss_cons (ys_set (i := 2) S_is_ascending.nd (yj_neg (yj_c ej_int)))
    (yss_cons (ys_for (passes_of rfl) rfl (ij_seq (dnE (W := wF) (yj_var 1))) (gj_nm 3 S_is_ascending.nd) (yss_cons (ys_if (zj_w (wz_or (zj_not (zj_tru (yj_isB T.ob "int" (by decide +kernel) (by decide +kernel) T.n_isinstance T.n_int (yj_var 3) (by decide +kernel)))) (wz_or (zj_tru (yj_isB T.ob "bool" (by decide +kernel) (by decide +kernel) T.n_isinstance T.n_bool (yj_var 3) (by decide +kernel))) (wz_1 (zj_not (zj_chain op_lt qLt op_lt qLt (yj_var 2) (yj_var 3) (yj_var 0))) (.inr rfl))))) (yss_one (ys_ret (yj_c ej_bl))) yss_nil)
    (yss_one (ys_set (i := 2) S_is_ascending.nd (yj_var 3)))))
    (yss_one (ys_ret (yj_c ej_bl))))))
abbrev N_has_door_form : List Str := ["clocks", "rooms", "value", "room", "guards", "resets", "goal", "leads"]
theorem S_has_door_form : FnScope ["clocks", "rooms", "value", "room", "guards", "resets", "goal", "leads"] ["clocks", "rooms", "value"] (defScope (top 33)) := ⟨rfl, rfl, rfl, by decide +kernel, rfl, by decide +kernel, by decide +kernel⟩
theorem c_has_door_form (T : Txt K mg) (hf : mg "has_door_form" = some (.ref (He.ga K "has_door_form"))) (F : FnP K "has_door_form" 33) (c_are_guards : CalY P w K mg base 4 "are_guards" 3 m_are_guards) (c_is_ascending : CalY P w K mg base 1 "is_ascending" 2 m_is_ascending) (c_is_from_to : CalY P w K mg base 2 "is_from_to" 3 m_is_from_to) (c_is_row : CalY P w K mg base 1 "is_row" 2 m_is_row) : CalY P w K mg base 5 "has_door_form" 3 m_has_door_form := by
  obtain ⟨fd, F⟩ := F
  refine calY_ok false (k := 4) hf F S_has_door_form (fun _ _ _ _ _ _ us hl => match us, hl with | [_, _, _], _ => rfl) (fun cdv A outer s H E hr => ?_)
  exact (yss_cons (ys_if (zj_not (zj_tru (yj_call (takes_of rfl rfl rfl rfl) (c_is_row.mono (by decide)) hr (yaj_cons (yj_c ej_int) (yaj_cons (yj_var 2) yaj_nil))))) yss_never yss_nil)
    (yss_cons (ys_asg (yj_var 2) (gj_tp rfl (gjs_cons (gj_nm 3 S_has_door_form.nd) (gjs_cons (gj_nm 4 S_has_door_form.nd) (gjs_cons (gj_nm 5 S_has_door_form.nd) (gjs_cons (gj_nm 6 S_has_door_form.nd) gjs_nil)))) (lCons_len (lCons_len (lCons_len (lCons_len lNil_len))))))
    (yss_cons (ys_set (i := 7) S_has_door_form.nd (yj_and (yj_call (takes_of rfl rfl rfl rfl) (c_is_from_to.mono (by decide)) hr (yaj_cons (yj_var 3) (yaj_cons (yj_c ej_int) (yaj_cons (yj_sub (yj_var 1) (yj_c ej_int)) yaj_nil)))) (yj_one (yj_call (takes_of rfl rfl rfl rfl) (c_is_from_to.mono (by decide)) hr (yaj_cons (yj_var 6) (yaj_cons (yj_c ej_int) (yaj_cons (yj_sub (yj_var 1) (yj_c ej_int)) yaj_nil)))))))
    (yss_one (ys_ret (yj_and (yj_var 7) (yj_and (yj_call (takes_of rfl rfl rfl rfl) (c_are_guards.mono (by decide)) hr (yaj_cons (yj_var 0) (yaj_cons (yj_c (ej_gint T.i_MOST_NUMBER)) (yaj_cons (yj_var 4) yaj_nil)))) (yj_one (yj_call (takes_of rfl rfl rfl rfl) (c_is_ascending.mono (by decide)) hr (yaj_cons (yj_var 0) (yaj_cons (yj_var 5) yaj_nil)))))))))))
abbrev N_machine_fault : List Str := ["clocks", "limits", "doors", "room", "index"]
theorem S_machine_fault : FnScope ["clocks", "limits", "doors", "room", "index"] ["clocks", "limits", "doors"] (defScope (top 35)) := ⟨rfl, rfl, rfl, by decide +kernel, rfl, by decide +kernel, by decide +kernel⟩
theorem c_machine_fault (T : Txt K mg) (hf : mg "machine_fault" = some (.ref (He.ga K "machine_fault"))) (F : FnP K "machine_fault" 35) (c_are_limits : CalY P w K mg base 4 "are_limits" 2 m_are_limits) (c_has_door_form : CalY P w K mg base 5 "has_door_form" 3 m_has_door_form) (c_is_from_to : CalY P w K mg base 2 "is_from_to" 3 m_is_from_to) : CalY P w K mg base 6 "machine_fault" 3 m_machine_fault := by
  obtain ⟨fd, F⟩ := F
  refine calY_ok false (k := 5) hf F S_machine_fault (fun _ _ _ _ _ _ us hl => match us, hl with | [_, _, _], _ => rfl) (fun cdv A outer s H E hr => ?_)
  exact (yss_cons (ys_if (zj_not (zj_tru (yj_call (takes_of rfl rfl rfl rfl) (c_is_from_to.mono (by decide)) hr (yaj_cons (yj_var 0) (yaj_cons (yj_c ej_int) (yaj_cons (yj_c (ej_gint T.i_MOST_CLOCKS)) yaj_nil)))))) yss_never yss_nil)
    (yss_cons (ys_if (zj_w (wz_or (zj_not (zj_tru (yj_isB T.ob "tuple" (by decide +kernel) (by decide +kernel) T.n_isinstance T.n_tuple (yj_var 1) (by decide +kernel)))) (wz_1 (zj_not (zj_chain op_le qLe op_le qLe (yj_c ej_int) (yj_bi call_len oLen_ok T.n_len (yaj_cons (yj_var 1) yaj_nil) (by decide +kernel)) (yj_c (ej_gint T.i_MOST_ROOMS)))) (.inr rfl)))) yss_never yss_nil)
    (yss_cons (ys_for (passes_of rfl) rfl (vj_rg1 T.n_range (dnE (W := wF) (yj_bi call_len oLen_ok T.n_len (yaj_cons (yj_var 1) yaj_nil) (by decide +kernel)))) (gj_nm 3 S_machine_fault.nd) (yss_one (ys_if (zj_not (zj_tru (yj_call (takes_of rfl rfl rfl rfl) (c_are_limits.mono (by decide)) hr (yaj_cons (yj_var 0) (yaj_cons (yj_item (yj_var 1) (yj_var 3)) yaj_nil))))) yss_never yss_nil)))
    (yss_cons (ys_if (zj_w (wz_or (zj_not (zj_tru (yj_isB T.ob "tuple" (by decide +kernel) (by decide +kernel) T.n_isinstance T.n_tuple (yj_var 2) (by decide +kernel)))) (wz_1 (zj_cmp op_gt qGt (yj_bi call_len oLen_ok T.n_len (yaj_cons (yj_var 2) yaj_nil) (by decide +kernel)) (yj_c (ej_gint T.i_MOST_DOORS))) (.inr rfl)))) yss_never yss_nil)
    (yss_cons (ys_for (passes_of rfl) rfl (vj_rg1 T.n_range (dnE (W := wF) (yj_bi call_len oLen_ok T.n_len (yaj_cons (yj_var 2) yaj_nil) (by decide +kernel)))) (gj_nm 4 S_machine_fault.nd) (yss_one (ys_if (zj_not (zj_tru (yj_call (takes_of rfl rfl rfl rfl) (c_has_door_form.mono (by decide)) hr (yaj_cons (yj_var 0) (yaj_cons (yj_bi call_len oLen_ok T.n_len (yaj_cons (yj_var 1) yaj_nil) (by decide +kernel)) (yaj_cons (yj_item (yj_var 2) (yj_var 4)) yaj_nil)))))) yss_never yss_nil)))
    (yss_one (ys_ret (yj_c ej_non))))))))
abbrev N_Machine : List Str := ["self", "clocks", "limits", "doors"]
theorem S_Machine : FnScope ["self", "clocks", "limits", "doors"] ["self", "clocks", "limits", "doors"] (defScope (top 1000)) := ⟨rfl, rfl, rfl, by decide +kernel, rfl, by decide +kernel, by decide +kernel⟩
theorem c_Machine (T : Txt K mg) (F : ∃ fd, FunD K "__init__" "Machine.__init__" (defArgs (top 1000)) (defBody (top 1000)) (defScope (top 1000)) [] [] (He.ma K (He.ga K "Machine") "__init__") fd) (c_machine_fault : CalY P w K mg base 6 "machine_fault" 3 m_machine_fault) : CalK P w K mg base 7 "Machine" 4 m_Machine := by
  obtain ⟨fd, F⟩ := F
  refine calK_ok (k := 6) T.mk_Machine T.g_Machine F S_Machine (fun _ _ _ _ _ _ us hl => match us, hl with | [_, _, _, _], _ => rfl) (fun cdv A outer s H E hr => ?_)
  exact (is_cons (is_if (zj_cmp op_notN oIsNot_ok (yj_call (takes_of rfl rfl rfl rfl) (c_machine_fault.mono (by decide)) hr (yaj_cons (yj_var 1) (yaj_cons (yj_var 2) (yaj_cons (yj_var 3) yaj_nil)))) (yj_c ej_non)) yss_never)
    (is_cons (is_fld (T.ob.cls "Machine" (by decide +kernel)) (T.na__clocks "Machine" (by decide +kernel)) (yj_var 1))
    (is_cons (is_fld (T.ob.cls "Machine" (by decide +kernel)) (T.na__limits "Machine" (by decide +kernel)) (yj_var 2))
    (is_cons (is_fld (T.ob.cls "Machine" (by decide +kernel)) (T.na__doors "Machine" (by decide +kernel)) (yj_var 3))
    is_nil))))
abbrev N__law_roll : List Str := ["dice", "most", "found", "one", "two"]
theorem S__law_roll : FnScope ["dice", "most", "found", "one", "two"] ["dice", "most"] (defScope (top 71)) := ⟨rfl, rfl, rfl, by decide +kernel, rfl, by decide +kernel, by decide +kernel⟩
theorem c__law_roll (T : Txt K mg) (hf : mg "_law_roll" = some (.ref (He.ga K "_law_roll"))) (F : FnP K "_law_roll" 71)  : CalY P w K mg base 1 "_law_roll" 2 m__law_roll := by
  obtain ⟨fd, F⟩ := F
  refine calY_ok false (k := 0) hf F S__law_roll (fun _ _ _ _ _ _ us hl => match us, hl with | [_, _], _ => rfl) (fun cdv A outer s H E hr => ?_)
  exact (yss_cons (ys_if (zj_cmp op_gt qGt (yj_item (yj_var 0) (yj_c ej_int)) (yj_c ej_int)) (yss_cons (ys_set (i := 2) S__law_roll.nd (yj_mod (yj_ty call_int1 oInt_ok T.n_int (yaj_cons (yj_item (yj_var 0) (yj_c ej_int)) yaj_nil) (by decide +kernel)) (yj_var 1)))
    (yss_cons (upS (sj_sub (dnE (W := wF) (yj_div (yj_item (yj_var 0) (yj_c ej_int)) (yj_var 1))) (dnE (W := wF) (yj_var 0)) (dnE (W := wF) (yj_c ej_int))))
    (yss_one (ys_ret (yj_var 2))))) yss_nil)
    (yss_cons (upS (sj_sub (dnE (W := wF) (yj_add (yj_item (yj_var 0) (yj_c ej_int)) (yj_c ej_int))) (dnE (W := wF) (yj_var 0)) (dnE (W := wF) (yj_c ej_int))))
    (yss_cons (ys_set (i := 3) S__law_roll.nd (yj_mod (yj_ty call_int1 oInt_ok T.n_int (yaj_cons (yj_add (yj_item (yj_var 0) (yj_c ej_int)) (yj_mul (yj_c ej_int) (yj_item (yj_var 0) (yj_c ej_int)))) yaj_nil) (by decide +kernel)) (yj_c ej_int)))
    (yss_cons (ys_set (i := 4) S__law_roll.nd (yj_add (yj_mul (yj_mod (yj_ty call_int1 oInt_ok T.n_int (yaj_cons (yj_add (yj_mul (yj_var 3) (yj_var 3)) (yj_mul (yj_c ej_int) (yj_item (yj_var 0) (yj_c ej_int)))) yaj_nil) (by decide +kernel)) (yj_c ej_int)) (yj_c ej_int)) (yj_var 3)))
    (yss_one (ys_ret (yj_mod (yj_ty call_int1 oInt_ok T.n_int (yaj_cons (yj_div (yj_var 4) (yj_c ej_int)) yaj_nil) (by decide +kernel)) (yj_var 1))))))))
abbrev N__law_pick : List Str := ["dice", "items"]
theorem S__law_pick : FnScope ["dice", "items"] ["dice", "items"] (defScope (top 72)) := ⟨rfl, rfl, rfl, by decide +kernel, rfl, by decide +kernel, by decide +kernel⟩
theorem c__law_pick (T : Txt K mg) (hf : mg "_law_pick" = some (.ref (He.ga K "_law_pick"))) (F : FnP K "_law_pick" 72) (c__law_roll : CalY P w K mg base 1 "_law_roll" 2 m__law_roll) : CalY P w K mg base 2 "_law_pick" 2 m__law_pick := by
  obtain ⟨fd, F⟩ := F
  refine calY_ok false (k := 1) hf F S__law_pick (fun _ _ _ _ _ _ us hl => match us, hl with | [_, _], _ => rfl) (fun cdv A outer s H E hr => ?_)
  exact (yss_one (ys_ret (yj_item (yj_var 1) (yj_call (takes_of rfl rfl rfl rfl) (c__law_roll.mono (by decide)) hr (yaj_cons (yj_var 0) (yaj_cons (yj_bi call_len oLen_ok T.n_len (yaj_cons (yj_var 1) yaj_nil) (by decide +kernel)) yaj_nil))))))
abbrev N_check_machine : List Str := ["machine"]
theorem S_check_machine : FnScope ["machine"] ["machine"] (defScope (top 37)) := ⟨rfl, rfl, rfl, by decide +kernel, rfl, by decide +kernel, by decide +kernel⟩
theorem c_check_machine (T : Txt K mg) (hf : mg "check_machine" = some (.ref (He.ga K "check_machine"))) (F : FnP K "check_machine" 37)  : CalY P w K mg base 1 "check_machine" 1 m_check_machine := by
  obtain ⟨fd, F⟩ := F
  refine calY_ok false (k := 0) hf F S_check_machine (fun _ _ _ _ _ _ us hl => match us, hl with | [_], _ => rfl) (fun cdv A outer s H E hr => ?_)
  exact (yss_one (ys_if (zj_not (zj_tru (yj_isC T.ob (by decide +kernel) T.n_isinstance T.g_Machine (yj_var 0)))) (yss_one (ys_raise_own rfl (takes_of rfl rfl rfl rfl) T.own_InvalidMachine)) yss_nil))
abbrev N_Machine_doors : List Str := ["self"]
theorem S_Machine_doors : FnScope ["self"] ["self"] (defScope (top 1003)) := ⟨rfl, rfl, rfl, by decide +kernel, rfl, by decide +kernel, by decide +kernel⟩
theorem c_Machine_doors (T : Txt K mg) (F : ∃ fd, FunD K "doors" "Machine.doors" (defArgs (top 1003)) (defBody (top 1003)) (defScope (top 1003)) [] [] (He5.wf K (He.ga K "Machine") "property" "doors") fd)  : CalP P w K mg base 1 "Machine" "doors" m_Machine_doors := by
  obtain ⟨fd, F⟩ := F
  refine calP_ok (k := 0) T.pr_Machine_doors F S_Machine_doors (fun _ _ _ _ _ _ us hl => match us, hl with | [_], _ => rfl) (fun cdv A outer s H E hr => ?_)
  exact (yss_one (ys_ret (yj_fld T.ob T.na__doors (yj_var 0))))
abbrev N_check_number : List Str := ["value", "low", "high"]
theorem S_check_number : FnScope ["value", "low", "high"] ["value", "low", "high"] (defScope (top 14)) := ⟨rfl, rfl, rfl, by decide +kernel, rfl, by decide +kernel, by decide +kernel⟩
theorem c_check_number (T : Txt K mg) (hf : mg "check_number" = some (.ref (He.ga K "check_number"))) (F : FnP K "check_number" 14) (c_is_from_to : CalY P w K mg base 2 "is_from_to" 3 m_is_from_to) : CalY P w K mg base 3 "check_number" 3 m_check_number := by
  obtain ⟨fd, F⟩ := F
  refine calY_ok false (k := 2) hf F S_check_number (fun _ _ _ _ _ _ us hl => match us, hl with | [_, _, _], _ => rfl) (fun cdv A outer s H E hr => ?_)
  exact (yss_one (ys_if (zj_not (zj_tru (yj_call (takes_of rfl rfl rfl rfl) (c_is_from_to.mono (by decide)) hr (yaj_cons (yj_var 0) (yaj_cons (yj_var 1) (yaj_cons (yj_var 2) yaj_nil)))))) (yss_one (ys_raise_low rfl (takes_of rfl rfl rfl rfl) lowB_I fld_given T.low_InvalidNumber hr.r (yj_var 0))) yss_nil))
abbrev N_is_fraction : List Str := ["value"]
theorem S_is_fraction : FnScope ["value"] ["value"] (defScope (top 26)) := ⟨rfl, rfl, rfl, by decide +kernel, rfl, by decide +kernel, by decide +kernel⟩
theorem c_is_fraction (T : Txt K mg) (hf : mg "is_fraction" = some (.ref (He.ga K "is_fraction"))) (F : FnP K "is_fraction" 26) (c_is_number : CalY P w K mg base 1 "is_number" 1 m_is_number) (c_is_row : CalY P w K mg base 1 "is_row" 2 m_is_row) : CalY P w K mg base 2 "is_fraction" 1 m_is_fraction := by
  obtain ⟨fd, F⟩ := F
  refine calY_ok false (k := 1) hf F S_is_fraction (fun _ _ _ _ _ _ us hl => match us, hl with | [_], _ => rfl) (fun cdv A outer s H E hr => ?_)
  exact (yss_cons (ys_if (zj_w (wz_or (zj_not (zj_tru (yj_call (takes_of rfl rfl rfl rfl) (c_is_row.mono (by decide)) hr (yaj_cons (yj_c ej_int) (yaj_cons (yj_var 0) yaj_nil))))) (wz_or (zj_not (zj_tru (yj_call (takes_of rfl rfl rfl rfl) (c_is_number.mono (by decide)) hr (yaj_cons (yj_item (yj_var 0) (yj_c ej_int)) yaj_nil)))) (wz_1 (zj_not (zj_tru (yj_call (takes_of rfl rfl rfl rfl) (c_is_number.mono (by decide)) hr (yaj_cons (yj_item (yj_var 0) (yj_c ej_int)) yaj_nil)))) (.inr rfl))))) (yss_one (ys_ret (yj_c ej_bl))) yss_nil)
    (yss_one (ys_ret (yj_and (yj_cmp op_gt qGt (yj_item (yj_var 0) (yj_c ej_int)) (yj_c ej_int)) (yj_one (yj_cmp (op_eqP (hu200 hr.r)) oEq_ok (yj_bif cr_gcd oGcd_ok T.g_gcd (yaj_cons (yj_item (yj_var 0) (yj_c ej_int)) (yaj_cons (yj_item (yj_var 0) (yj_c ej_int)) yaj_nil))) (yj_c ej_int)))))))
abbrev N_is_from_zero : List Str := ["value"]
theorem S_is_from_zero : FnScope ["value"] ["value"] (defScope (top 27)) := ⟨rfl, rfl, rfl, by decide +kernel, rfl, by decide +kernel, by decide +kernel⟩
theorem c_is_from_zero (T : Txt K mg) (hf : mg "is_from_zero" = some (.ref (He.ga K "is_from_zero"))) (F : FnP K "is_from_zero" 27) (c_is_fraction : CalY P w K mg base 2 "is_fraction" 1 m_is_fraction) : CalY P w K mg base 3 "is_from_zero" 1 m_is_from_zero := by
  obtain ⟨fd, F⟩ := F
  refine calY_ok false (k := 2) hf F S_is_from_zero (fun _ _ _ _ _ _ us hl => match us, hl with | [_], _ => rfl) (fun cdv A outer s H E hr => ?_)
  exact (yss_one (ys_ret (yj_and (yj_call (takes_of rfl rfl rfl rfl) (c_is_fraction.mono (by decide)) hr (yaj_cons (yj_var 0) yaj_nil)) (yj_one (yj_cmp op_ge qGe (yj_item (yj_var 0) (yj_c ej_int)) (yj_c ej_int))))))
abbrev N_check_margin : List Str := ["margin"]
theorem S_check_margin : FnScope ["margin"] ["margin"] (defScope (top 44)) := ⟨rfl, rfl, rfl, by decide +kernel, rfl, by decide +kernel, by decide +kernel⟩
theorem c_check_margin (T : Txt K mg) (hf : mg "check_margin" = some (.ref (He.ga K "check_margin"))) (F : FnP K "check_margin" 44) (c_is_from_zero : CalY P w K mg base 3 "is_from_zero" 1 m_is_from_zero) : CalY P w K mg base 4 "check_margin" 1 m_check_margin := by
  obtain ⟨fd, F⟩ := F
  refine calY_ok false (k := 3) hf F S_check_margin (fun _ _ _ _ _ _ us hl => match us, hl with | [_], _ => rfl) (fun cdv A outer s H E hr => ?_)
  exact (yss_one (ys_if (zj_not (zj_tru (yj_call (takes_of rfl rfl rfl rfl) (c_is_from_zero.mono (by decide)) hr (yaj_cons (yj_var 0) yaj_nil)))) (yss_one (ys_raise_own rfl (takes_of rfl rfl rfl rfl) T.own_InvalidFraction)) yss_nil))
abbrev N_check_program : List Str := ["machine", "own", "k", "most"]
theorem S_check_program : FnScope ["machine", "own", "k", "most"] ["machine", "own", "k", "most"] (defScope (top 50)) := ⟨rfl, rfl, rfl, by decide +kernel, rfl, by decide +kernel, by decide +kernel⟩
theorem c_check_program (T : Txt K mg) (hf : mg "check_program" = some (.ref (He.ga K "check_program"))) (F : FnP K "check_program" 50) (c_Machine_doors : CalP P w K mg base 1 "Machine" "doors" m_Machine_doors) (c_check_machine : CalY P w K mg base 1 "check_machine" 1 m_check_machine) (c_check_margin : CalY P w K mg base 4 "check_margin" 1 m_check_margin) (c_check_number : CalY P w K mg base 3 "check_number" 3 m_check_number) (c_is_ascending : CalY P w K mg base 1 "is_ascending" 2 m_is_ascending) : CalY P w K mg base 5 "check_program" 4 m_check_program := by
  obtain ⟨fd, F⟩ := F
  have cP_doors : ∀ D m, LP_doors D = some m → Cls K (He.ga K D) ∧ CalP P w K mg base 3 D "doors" m := by
    intro D m h
    unfold LP_doors at h
    by_cases e_Machine : D = "Machine"
    · subst e_Machine; rw [if_pos rfl] at h; cases h; exact ⟨T.ob.cls "Machine" (by decide +kernel), c_Machine_doors.mono (by decide)⟩
    rw [if_neg e_Machine] at h
    cases h
  refine calY_ok false (k := 4) hf F S_check_program (fun _ _ _ _ _ _ us hl => match us, hl with | [_, _, _, _], _ => rfl) (fun cdv A outer s H E hr => ?_)
  exact (yss_cons (ys_expr (yj_call (takes_of rfl rfl rfl rfl) (c_check_machine.mono (by decide)) hr (yaj_cons (yj_var 0) yaj_nil)))
    (yss_cons (ys_if (zj_not (zj_tru (yj_call (takes_of rfl rfl rfl rfl) (c_is_ascending.mono (by decide)) hr (yaj_cons (yj_bi call_len oLen_ok T.n_len (yaj_cons (yj_prop (L := LP_doors) (fun C m h => ⟨(cP_doors C m h).1, (cP_doors C m h).2.mono (by decide)⟩) hr (yj_var 0)) yaj_nil) (by decide +kernel)) (yaj_cons (yj_var 1) yaj_nil))))) (yss_one (ys_raise_own rfl (takes_of rfl rfl rfl rfl) T.own_InvalidOperation)) yss_nil)
    (yss_cons (ys_expr (yj_call (takes_of rfl rfl rfl rfl) (c_check_number.mono (by decide)) hr (yaj_cons (yj_var 2) (yaj_cons (yj_c ej_int) (yaj_cons (yj_c (ej_gint T.i_GREATEST)) yaj_nil)))))
    (yss_one (ys_expr (yj_call (takes_of rfl rfl rfl rfl) (c_check_margin.mono (by decide)) hr (yaj_cons (yj_var 3) yaj_nil)))))))
abbrev N_order_of : List Str := ["one", "other", "left", "right"]
theorem S_order_of : FnScope ["one", "other", "left", "right"] ["one", "other"] (defScope (top 24)) := ⟨rfl, rfl, rfl, by decide +kernel, rfl, by decide +kernel, by decide +kernel⟩
theorem c_order_of (T : Txt K mg) (hf : mg "order_of" = some (.ref (He.ga K "order_of"))) (F : FnP K "order_of" 24)  : CalY P w K mg base 1 "order_of" 2 m_order_of := by
  obtain ⟨fd, F⟩ := F
  refine calY_ok false (k := 0) hf F S_order_of (fun _ _ _ _ _ _ us hl => match us, hl with | [_, _], _ => rfl) (fun cdv A outer s H E hr => ?_)
  exact (yss_cons (ys_set (i := 2) S_order_of.nd (yj_mul (yj_item (yj_var 0) (yj_c ej_int)) (yj_item (yj_var 1) (yj_c ej_int))))
    (yss_cons (ys_set (i := 3) S_order_of.nd (yj_mul (yj_item (yj_var 1) (yj_c ej_int)) (yj_item (yj_var 0) (yj_c ej_int))))
    (yss_cons (ys_if (zj_cmp op_lt qLt (yj_var 2) (yj_var 3)) (yss_one (ys_ret (yj_neg (yj_c ej_int)))) yss_nil)
    (yss_cons (ys_if (zj_cmp op_gt qGt (yj_var 2) (yj_var 3)) (yss_one (ys_ret (yj_c ej_int))) yss_nil)
    (yss_one (ys_ret (yj_c ej_int)))))))
abbrev N_is_lag : List Str := ["by_program", "k", "most", "lag"]
theorem S_is_lag : FnScope ["by_program", "k", "most", "lag"] ["by_program", "k", "most", "lag"] (defScope (top 53)) := ⟨rfl, rfl, rfl, by decide +kernel, rfl, by decide +kernel, by decide +kernel⟩
theorem c_is_lag (T : Txt K mg) (hf : mg "is_lag" = some (.ref (He.ga K "is_lag"))) (F : FnP K "is_lag" 53) (c_order_of : CalY P w K mg base 1 "order_of" 2 m_order_of) : CalY P w K mg base 2 "is_lag" 4 m_is_lag := by
  obtain ⟨fd, F⟩ := F
  refine calY_ok false (k := 1) hf F S_is_lag (fun _ _ _ _ _ _ us hl => match us, hl with | [_, _, _, _], _ => rfl) (fun cdv A outer s H E hr => ?_)
  exact (yss_cons (ys_if (zj_tru (yj_var 0)) (yss_one (ys_ret (yj_cmp op_le qLe (yj_call (takes_of rfl rfl rfl rfl) (c_order_of.mono (by decide)) hr (yaj_cons (yj_var 3) (yaj_cons (yj_var 2) yaj_nil))) (yj_c ej_int)))) yss_nil)
    (yss_one (ys_ret (yj_cmp op_lt qLt (yj_mul (yj_item (yj_var 3) (yj_c ej_int)) (yj_var 1)) (yj_item (yj_var 3) (yj_c ej_int))))))
abbrev N_do_follow : List Str := ["machine", "indices", "room", "doors", "index"]
theorem S_do_follow : FnScope ["machine", "indices", "room", "doors", "index"] ["machine", "indices"] (defScope (top 43)) := ⟨rfl, rfl, rfl, by decide +kernel, rfl, by decide +kernel, by decide +kernel⟩
theorem c_do_follow (T : Txt K mg) (hf : mg "do_follow" = some (.ref (He.ga K "do_follow"))) (F : FnP K "do_follow" 43) (c_Machine_doors : CalP P w K mg base 1 "Machine" "doors" m_Machine_doors) : CalY P w K mg base 3 "do_follow" 2 m_do_follow := by
  obtain ⟨fd, F⟩ := F
  have cP_doors : ∀ D m, LP_doors D = some m → Cls K (He.ga K D) ∧ CalP P w K mg base 1 D "doors" m := by
    intro D m h
    unfold LP_doors at h
    by_cases e_Machine : D = "Machine"
    · subst e_Machine; rw [if_pos rfl] at h; cases h; exact ⟨T.ob.cls "Machine" (by decide +kernel), c_Machine_doors.mono (by decide)⟩
    rw [if_neg e_Machine] at h
    cases h
  refine calY_ok false (k := 2) hf F S_do_follow (fun _ _ _ _ _ _ us hl => match us, hl with | [_, _], _ => rfl) (fun cdv A outer s H E hr => ?_)
  exact (yss_cons (ys_set (i := 2) S_do_follow.nd (yj_c ej_int))
    (yss_cons (ys_set (i := 3) S_do_follow.nd (yj_prop (L := LP_doors) (fun C m h => ⟨(cP_doors C m h).1, (cP_doors C m h).2.mono (by decide)⟩) hr (yj_var 0)))
    (yss_cons (ys_for (passes_of rfl) rfl (ij_seq (dnE (W := wF) (yj_var 1))) (gj_nm 4 S_do_follow.nd) (yss_cons (ys_if (zj_w (wz_or (zj_cmp op_ge qGe (yj_var 4) (yj_bi call_len oLen_ok T.n_len (yaj_cons (yj_var 3) yaj_nil) (by decide +kernel))) (wz_1 (zj_cmp (op_neP (hu200 hr.r)) oEq_ok (yj_item (yj_item (yj_var 3) (yj_var 4)) (yj_c ej_int)) (yj_var 2)) (.inr rfl)))) (yss_one (ys_ret (yj_c ej_bl))) yss_nil)
    (yss_one (ys_set (i := 2) S_do_follow.nd (yj_item (yj_item (yj_var 3) (yj_var 4)) (yj_c ej_int))))))
    (yss_one (ys_ret (yj_c ej_bl))))))
abbrev N_has_ticking_form : List Str := ["machine", "own", "k", "most", "value", "last", "tick", "lag", "door", "step"]
theorem S_has_ticking_form : FnScope ["machine", "own", "k", "most", "value", "last", "tick", "lag", "door", "step"] ["machine", "own", "k", "most", "value"] (defScope (top 52)) := ⟨rfl, rfl, rfl, by decide +kernel, rfl, by decide +kernel, by decide +kernel⟩
theorem c_has_ticking_form (T : Txt K mg) (hf : mg "has_ticking_form" = some (.ref (He.ga K "has_ticking_form"))) (F : FnP K "has_ticking_form" 52) (c_Machine_doors : CalP P w K mg base 1 "Machine" "doors" m_Machine_doors) (c_do_follow : CalY P w K mg base 3 "do_follow" 2 m_do_follow) (c_is_from_to : CalY P w K mg base 2 "is_from_to" 3 m_is_from_to) (c_is_from_zero : CalY P w K mg base 3 "is_from_zero" 1 m_is_from_zero) (c_is_lag : CalY P w K mg base 2 "is_lag" 4 m_is_lag) (c_is_number : CalY P w K mg base 1 "is_number" 1 m_is_number) (c_is_row : CalY P w K mg base 1 "is_row" 2 m_is_row) : CalY P w K mg base 4 "has_ticking_form" 5 m_has_ticking_form := by
  obtain ⟨fd, F⟩ := F
  have cP_doors : ∀ D m, LP_doors D = some m → Cls K (He.ga K D) ∧ CalP P w K mg base 2 D "doors" m := by
    intro D m h
    unfold LP_doors at h
    by_cases e_Machine : D = "Machine"
    · subst e_Machine; rw [if_pos rfl] at h; cases h; exact ⟨T.ob.cls "Machine" (by decide +kernel), c_Machine_doors.mono (by decide)⟩
    rw [if_neg e_Machine] at h
    cases h
  refine calY_ok false (k := 3) hf F S_has_ticking_form (fun _ _ _ _ _ _ us hl => match us, hl with | [_, _, _, _, _], _ => rfl) (fun cdv A outer s H E hr => ?_)
  exact (yss_cons (ys_if (zj_w (wz_or (zj_not (zj_tru (yj_isB T.ob "tuple" (by decide +kernel) (by decide +kernel) T.n_isinstance T.n_tuple (yj_var 4) (by decide +kernel)))) (wz_or (zj_cmp op_gt qGt (yj_bi call_len oLen_ok T.n_len (yaj_cons (yj_var 4) yaj_nil) (by decide +kernel)) (yj_c (ej_gint T.i_MOST_STEPS))) (wz_1 (zj_not (zj_tru (yj_bi (cr_all rfl) oAll_ok T.n_all (yaj_cons (upLc (ej_lc (own := [("step", 9)]) rfl S_has_ticking_form.nd (ij_seq (dnE (W := wF) (yj_var 4))) (blkOk_by (N := N_has_ticking_form) (sc := defScope (top 52)) (by decide +kernel)) (by decide) (fun _ _ _ _ _ => (gj_nm 9 S_has_ticking_form.nd)) (fun _ _ _ _ _ => tsj_nil) (fun _ _ _ _ _ => (dnE (W := wF) (yj_call takesF (c_is_row.mono (by decide)) hr (yaj_cons (yj_c ej_int) (yaj_cons (yj_var 9) yaj_nil))))))) yaj_nil) (by decide +kernel)))) (.inr rfl))))) (yss_one (ys_ret (yj_c ej_bl))) yss_nil)
    (yss_cons (ys_set (i := 5) S_has_ticking_form.nd (yj_sub (yj_bi call_len oLen_ok T.n_len (yaj_cons (yj_prop (L := LP_doors) (fun C m h => ⟨(cP_doors C m h).1, (cP_doors C m h).2.mono (by decide)⟩) hr (yj_var 0)) yaj_nil) (by decide +kernel)) (yj_c ej_int)))
    (yss_cons (ys_for (passes_of rfl) rfl (ij_seq (dnE (W := wF) (yj_var 4))) (gj_tp rfl (gjs_cons (gj_nm 6 S_has_ticking_form.nd) (gjs_cons (gj_nm 7 S_has_ticking_form.nd) (gjs_cons (gj_nm 8 S_has_ticking_form.nd) gjs_nil))) (lCons_len (lCons_len (lCons_len lNil_len)))) (yss_cons (ys_if (zj_w (wz_or (zj_not (zj_tru (yj_call (takes_of rfl rfl rfl rfl) (c_is_number.mono (by decide)) hr (yaj_cons (yj_var 6) yaj_nil)))) (wz_or (zj_cmp op_lt qLt (yj_var 6) (yj_c ej_int)) (wz_or (zj_not (zj_tru (yj_call (takes_of rfl rfl rfl rfl) (c_is_from_zero.mono (by decide)) hr (yaj_cons (yj_var 7) yaj_nil)))) (wz_1 (zj_not (zj_tru (yj_call (takes_of rfl rfl rfl rfl) (c_is_from_to.mono (by decide)) hr (yaj_cons (yj_var 8) (yaj_cons (yj_c ej_int) (yaj_cons (yj_var 5) yaj_nil)))))) (.inr rfl)))))) (yss_one (ys_ret (yj_c ej_bl))) yss_nil)
    (yss_one (ys_if (zj_not (zj_tru (yj_call (takes_of rfl rfl rfl rfl) (c_is_lag.mono (by decide)) hr (yaj_cons (yj_cmp (op_inP (hu200 hr.r)) oIn_ok (yj_var 8) (yj_var 1)) (yaj_cons (yj_var 2) (yaj_cons (yj_var 3) (yaj_cons (yj_var 7) yaj_nil))))))) (yss_one (ys_ret (yj_c ej_bl))) yss_nil))))
    (yss_one (ys_ret (yj_call (takes_of rfl rfl rfl rfl) (c_do_follow.mono (by decide)) hr (yaj_cons (yj_var 0) (yaj_cons (upLc (ej_lc (own := [("tick", 6), ("lag", 7), ("door", 8)]) rfl S_has_ticking_form.nd (ij_seq (dnE (W := wF) (yj_var 4))) (blkOk_by (N := N_has_ticking_form) (sc := defScope (top 52)) (by decide +kernel)) (by decide) (fun _ _ _ _ _ => (gj_tp rfl (gjs_cons (gj_nm 6 S_has_ticking_form.nd) (gjs_cons (gj_nm 7 S_has_ticking_form.nd) (gjs_cons (gj_nm 8 S_has_ticking_form.nd) gjs_nil))) (lCons_len (lCons_len (lCons_len lNil_len))))) (fun _ _ _ _ _ => tsj_nil) (fun _ _ _ _ _ => (dnE (W := wF) (yj_var 8))))) yaj_nil))))))))
abbrev N_check_ticking : List Str := ["machine", "own", "k", "most", "run"]
theorem S_check_ticking : FnScope ["machine", "own", "k", "most", "run"] ["machine", "own", "k", "most", "run"] (defScope (top 54)) := ⟨rfl, rfl, rfl, by decide +kernel, rfl, by decide +kernel, by decide +kernel⟩
theorem c_check_ticking (T : Txt K mg) (hf : mg "check_ticking" = some (.ref (He.ga K "check_ticking"))) (F : FnP K "check_ticking" 54) (c_check_program : CalY P w K mg base 5 "check_program" 4 m_check_program) (c_has_ticking_form : CalY P w K mg base 4 "has_ticking_form" 5 m_has_ticking_form) : CalY P w K mg base 6 "check_ticking" 5 m_check_ticking := by
  obtain ⟨fd, F⟩ := F
  refine calY_ok false (k := 5) hf F S_check_ticking (fun _ _ _ _ _ _ us hl => match us, hl with | [_, _, _, _, _], _ => rfl) (fun cdv A outer s H E hr => ?_)
  exact (yss_cons (ys_expr (yj_call (takes_of rfl rfl rfl rfl) (c_check_program.mono (by decide)) hr (yaj_cons (yj_var 0) (yaj_cons (yj_var 1) (yaj_cons (yj_var 2) (yaj_cons (yj_var 3) yaj_nil))))))
    (yss_one (ys_if (zj_not (zj_tru (yj_call (takes_of rfl rfl rfl rfl) (c_has_ticking_form.mono (by decide)) hr (yaj_cons (yj_var 0) (yaj_cons (yj_var 1) (yaj_cons (yj_var 2) (yaj_cons (yj_var 3) (yaj_cons (yj_var 4) yaj_nil)))))))) (yss_one (ys_raise_own rfl (takes_of rfl rfl rfl rfl) T.own_InvalidRun)) yss_nil)))
abbrev N_reduced : List Str := ["top", "bottom", "common"]
theorem S_reduced : FnScope ["top", "bottom", "common"] ["top", "bottom"] (defScope (top 21)) := ⟨rfl, rfl, rfl, by decide +kernel, rfl, by decide +kernel, by decide +kernel⟩
theorem c_reduced (T : Txt K mg) (hf : mg "reduced" = some (.ref (He.ga K "reduced"))) (F : FnP K "reduced" 21)  : CalY P w K mg base 1 "reduced" 2 m_reduced := by
  obtain ⟨fd, F⟩ := F
  refine calY_ok false (k := 0) hf F S_reduced (fun _ _ _ _ _ _ us hl => match us, hl with | [_, _], _ => rfl) (fun cdv A outer s H E hr => ?_)
  exact (yss_cons (ys_set (i := 2) S_reduced.nd (yj_bif cr_gcd oGcd_ok T.g_gcd (yaj_cons (yj_var 0) (yaj_cons (yj_var 1) yaj_nil))))
    (yss_cons (ys_if (zj_cmp op_lt qLt (yj_var 1) (yj_c ej_int)) yss_never yss_nil)
    (yss_one (ys_ret (yj_tup (yaj_cons (yj_div (yj_var 0) (yj_var 2)) (yaj_cons (yj_div (yj_var 1) (yj_var 2)) yaj_nil)))))))
abbrev N_sum_of : List Str := ["one", "other"]
theorem S_sum_of : FnScope ["one", "other"] ["one", "other"] (defScope (top 22)) := ⟨rfl, rfl, rfl, by decide +kernel, rfl, by decide +kernel, by decide +kernel⟩
theorem c_sum_of (T : Txt K mg) (hf : mg "sum_of" = some (.ref (He.ga K "sum_of"))) (F : FnP K "sum_of" 22) (c_reduced : CalY P w K mg base 1 "reduced" 2 m_reduced) : CalY P w K mg base 2 "sum_of" 2 m_sum_of := by
  obtain ⟨fd, F⟩ := F
  refine calY_ok false (k := 1) hf F S_sum_of (fun _ _ _ _ _ _ us hl => match us, hl with | [_, _], _ => rfl) (fun cdv A outer s H E hr => ?_)
  exact (yss_one (ys_ret (yj_call (takes_of rfl rfl rfl rfl) (c_reduced.mono (by decide)) hr (yaj_cons (yj_add (yj_mul (yj_item (yj_var 0) (yj_c ej_int)) (yj_item (yj_var 1) (yj_c ej_int))) (yj_mul (yj_item (yj_var 1) (yj_c ej_int)) (yj_item (yj_var 0) (yj_c ej_int)))) (yaj_cons (yj_mul (yj_item (yj_var 0) (yj_c ej_int)) (yj_item (yj_var 1) (yj_c ej_int))) yaj_nil)))))
abbrev N_door_moments : List Str := ["k", "run", "tick", "lag", "door"]
theorem S_door_moments : FnScope ["k", "run", "tick", "lag", "door"] ["k", "run"] (defScope (top 56)) := ⟨rfl, rfl, rfl, by decide +kernel, rfl, by decide +kernel, by decide +kernel⟩
theorem c_door_moments (T : Txt K mg) (hf : mg "door_moments" = some (.ref (He.ga K "door_moments"))) (F : FnP K "door_moments" 56) (c_reduced : CalY P w K mg base 1 "reduced" 2 m_reduced) (c_sum_of : CalY P w K mg base 2 "sum_of" 2 m_sum_of) : CalY P w K mg base 3 "door_moments" 2 m_door_moments := by
  obtain ⟨fd, F⟩ := F
  refine calY_ok false (k := 2) hf F S_door_moments (fun _ _ _ _ _ _ us hl => match us, hl with | [_, _], _ => rfl) (fun cdv A outer s H E hr => ?_)
  exact (yss_one (ys_ret (upLc (ej_lc (own := [("tick", 2), ("lag", 3), ("door", 4)]) rfl S_door_moments.nd (ij_seq (dnE (W := wF) (yj_var 1))) (blkOk_by (N := N_door_moments) (sc := defScope (top 56)) (by decide +kernel)) (by decide) (fun _ _ _ _ _ => (gj_tp rfl (gjs_cons (gj_nm 2 S_door_moments.nd) (gjs_cons (gj_nm 3 S_door_moments.nd) (gjs_cons (gj_nm 4 S_door_moments.nd) gjs_nil))) (lCons_len (lCons_len (lCons_len lNil_len))))) (fun _ _ _ _ _ => tsj_nil) (fun _ _ _ _ _ => (dnE (W := wF) (yj_call takesF (c_sum_of.mono (by decide)) hr (yaj_cons (yj_call takesF (c_reduced.mono (by decide)) hr (yaj_cons (yj_var 2) (yaj_cons (yj_var 0) yaj_nil))) (yaj_cons (yj_var 3) yaj_nil)))))))))
abbrev N_moments : List Str := ["machine", "own", "k", "most", "run"]
theorem S_moments : FnScope ["machine", "own", "k", "most", "run"] ["machine", "own", "k", "most", "run"] (defScope (top 55)) := ⟨rfl, rfl, rfl, by decide +kernel, rfl, by decide +kernel, by decide +kernel⟩
theorem c_moments (T : Txt K mg) (hf : mg "moments" = some (.ref (He.ga K "moments"))) (F : FnP K "moments" 55) (c_check_ticking : CalY P w K mg base 6 "check_ticking" 5 m_check_ticking) (c_door_moments : CalY P w K mg base 3 "door_moments" 2 m_door_moments) : CalY P w K mg base 7 "moments" 5 m_moments := by
  obtain ⟨fd, F⟩ := F
  refine calY_ok false (k := 6) hf F S_moments (fun _ _ _ _ _ _ us hl => match us, hl with | [_, _, _, _, _], _ => rfl) (fun cdv A outer s H E hr => ?_)
  exact (yss_cons (ys_expr (yj_call (takes_of rfl rfl rfl rfl) (c_check_ticking.mono (by decide)) hr (yaj_cons (yj_var 0) (yaj_cons (yj_var 1) (yaj_cons (yj_var 2) (yaj_cons (yj_var 3) (yaj_cons (yj_var 4) yaj_nil)))))))
    (yss_one (ys_ret (yj_ty call_tuple_of oTupleOf_ok T.n_tuple (yaj_cons (yj_call (takes_of rfl rfl rfl rfl) (c_door_moments.mono (by decide)) hr (yaj_cons (yj_var 2) (yaj_cons (yj_var 4) yaj_nil))) yaj_nil) (by decide +kernel)))))
abbrev N_noticed : List Str := ["machine", "own", "k", "most", "run"]
theorem S_noticed : FnScope ["machine", "own", "k", "most", "run"] ["machine", "own", "k", "most", "run"] (defScope (top 57)) := ⟨rfl, rfl, rfl, by decide +kernel, rfl, by decide +kernel, by decide +kernel⟩
theorem c_noticed (T : Txt K mg) (hf : mg "noticed" = some (.ref (He.ga K "noticed"))) (F : FnP K "noticed" 57) (c_check_ticking : CalY P w K mg base 6 "check_ticking" 5 m_check_ticking) : CalY P w K mg base 7 "noticed" 5 m_noticed := by
  obtain ⟨fd, F⟩ := F
  refine calY_ok false (k := 6) hf F S_noticed (fun _ _ _ _ _ _ us hl => match us, hl with | [_, _, _, _, _], _ => rfl) (fun cdv A outer s H E hr => ?_)
  exact (yss_cons (ys_expr (yj_call (takes_of rfl rfl rfl rfl) (c_check_ticking.mono (by decide)) hr (yaj_cons (yj_var 0) (yaj_cons (yj_var 1) (yaj_cons (yj_var 2) (yaj_cons (yj_var 3) (yaj_cons (yj_var 4) yaj_nil)))))))
    yss_never)
abbrev N_counters : List Str := ["machine", "own", "k", "most", "run", "rows", "row", "step"]
theorem S_counters : FnScope ["machine", "own", "k", "most", "run", "rows", "row", "step"] ["machine", "own", "k", "most", "run"] (defScope (top 59)) := ⟨rfl, rfl, rfl, by decide +kernel, rfl, by decide +kernel, by decide +kernel⟩
theorem c_counters (T : Txt K mg) (hf : mg "counters" = some (.ref (He.ga K "counters"))) (F : FnP K "counters" 59) (c_check_ticking : CalY P w K mg base 6 "check_ticking" 5 m_check_ticking) : CalY P w K mg base 7 "counters" 5 m_counters := by
  obtain ⟨fd, F⟩ := F
  refine calY_ok false (k := 6) hf F S_counters (fun _ _ _ _ _ _ us hl => match us, hl with | [_, _, _, _, _], _ => rfl) (fun cdv A outer s H E hr => ?_)
  exact (yss_cons (ys_expr (yj_call (takes_of rfl rfl rfl rfl) (c_check_ticking.mono (by decide)) hr (yaj_cons (yj_var 0) (yaj_cons (yj_var 1) (yaj_cons (yj_var 2) (yaj_cons (yj_var 3) (yaj_cons (yj_var 4) yaj_nil)))))))
    yss_never)
abbrev N_ticking_fault : List Str := ["machine", "own", "k", "most", "run"]
theorem S_ticking_fault : FnScope ["machine", "own", "k", "most", "run"] ["machine", "own", "k", "most", "run"] (defScope (top 63)) := ⟨rfl, rfl, rfl, by decide +kernel, rfl, by decide +kernel, by decide +kernel⟩
theorem c_ticking_fault (T : Txt K mg) (hf : mg "ticking_fault" = some (.ref (He.ga K "ticking_fault"))) (F : FnP K "ticking_fault" 63) (c_check_ticking : CalY P w K mg base 6 "check_ticking" 5 m_check_ticking) : CalY P w K mg base 7 "ticking_fault" 5 m_ticking_fault := by
  obtain ⟨fd, F⟩ := F
  refine calY_ok false (k := 6) hf F S_ticking_fault (fun _ _ _ _ _ _ us hl => match us, hl with | [_, _, _, _, _], _ => rfl) (fun cdv A outer s H E hr => ?_)
  exact (yss_cons (ys_expr (yj_call (takes_of rfl rfl rfl rfl) (c_check_ticking.mono (by decide)) hr (yaj_cons (yj_var 0) (yaj_cons (yj_var 1) (yaj_cons (yj_var 2) (yaj_cons (yj_var 3) (yaj_cons (yj_var 4) yaj_nil)))))))
    yss_never)
abbrev N_notice_ticks : List Str := ["own", "run", "tick", "lag", "door"]
theorem S_notice_ticks : FnScope ["own", "run", "tick", "lag", "door"] ["own", "run"] (defScope (top 58)) := ⟨rfl, rfl, rfl, by decide +kernel, rfl, by decide +kernel, by decide +kernel⟩
theorem c_notice_ticks (T : Txt K mg) (hf : mg "notice_ticks" = some (.ref (He.ga K "notice_ticks"))) (F : FnP K "notice_ticks" 58)  : CalY P w K mg base 1 "notice_ticks" 2 m_notice_ticks := by
  obtain ⟨fd, F⟩ := F
  refine calY_ok false (k := 0) hf F S_notice_ticks (fun _ _ _ _ _ _ us hl => match us, hl with | [_, _], _ => rfl) (fun cdv A outer s H E hr => ?_)
  exact (yss_one (ys_ret (upLc (ej_lc (own := [("tick", 2), ("lag", 3), ("door", 4)]) rfl S_notice_ticks.nd (ij_seq (dnE (W := wF) (yj_var 1))) (blkOk_by (N := N_notice_ticks) (sc := defScope (top 58)) (by decide +kernel)) (by decide) (fun _ _ _ _ _ => (gj_tp rfl (gjs_cons (gj_nm 2 S_notice_ticks.nd) (gjs_cons (gj_nm 3 S_notice_ticks.nd) (gjs_cons (gj_nm 4 S_notice_ticks.nd) gjs_nil))) (lCons_len (lCons_len (lCons_len lNil_len))))) (fun _ _ _ _ _ => tsj_nil) (fun _ _ _ _ _ => (dnE (W := wF) (yj_if (zj_w (wz_or (zj_cmp (op_inP (hu200 hr.r)) oIn_ok (yj_var 4) (yj_var 0)) (wz_1 (zj_cmp (op_eqP (hu200 hr.r)) oEq_ok (yj_var 3) (yj_c (ej_gtup T.t_ZERO.1 T.t_ZERO.2))) (.inr rfl)))) (yj_var 2) (yj_add (yj_var 2) (yj_c ej_int)))))))))
abbrev N_Machine_clocks : List Str := ["self"]
theorem S_Machine_clocks : FnScope ["self"] ["self"] (defScope (top 1001)) := ⟨rfl, rfl, rfl, by decide +kernel, rfl, by decide +kernel, by decide +kernel⟩
theorem c_Machine_clocks (T : Txt K mg) (F : ∃ fd, FunD K "clocks" "Machine.clocks" (defArgs (top 1001)) (defBody (top 1001)) (defScope (top 1001)) [] [] (He5.wf K (He.ga K "Machine") "property" "clocks") fd)  : CalP P w K mg base 1 "Machine" "clocks" m_Machine_clocks := by
  obtain ⟨fd, F⟩ := F
  refine calP_ok (k := 0) T.pr_Machine_clocks F S_Machine_clocks (fun _ _ _ _ _ _ us hl => match us, hl with | [_], _ => rfl) (fun cdv A outer s H E hr => ?_)
  exact (yss_one (ys_ret (yj_fld T.ob T.na__clocks (yj_var 0))))
abbrev N_difference_of : List Str := ["one", "other"]
theorem S_difference_of : FnScope ["one", "other"] ["one", "other"] (defScope (top 23)) := ⟨rfl, rfl, rfl, by decide +kernel, rfl, by decide +kernel, by decide +kernel⟩
theorem c_difference_of (T : Txt K mg) (hf : mg "difference_of" = some (.ref (He.ga K "difference_of"))) (F : FnP K "difference_of" 23) (c_reduced : CalY P w K mg base 1 "reduced" 2 m_reduced) : CalY P w K mg base 2 "difference_of" 2 m_difference_of := by
  obtain ⟨fd, F⟩ := F
  refine calY_ok false (k := 1) hf F S_difference_of (fun _ _ _ _ _ _ us hl => match us, hl with | [_, _], _ => rfl) (fun cdv A outer s H E hr => ?_)
  exact (yss_one (ys_ret (yj_call (takes_of rfl rfl rfl rfl) (c_reduced.mono (by decide)) hr (yaj_cons (yj_sub (yj_mul (yj_item (yj_var 0) (yj_c ej_int)) (yj_item (yj_var 1) (yj_c ej_int))) (yj_mul (yj_item (yj_var 1) (yj_c ej_int)) (yj_item (yj_var 0) (yj_c ej_int)))) (yaj_cons (yj_mul (yj_item (yj_var 0) (yj_c ej_int)) (yj_item (yj_var 1) (yj_c ej_int))) yaj_nil)))))
abbrev N_begun_at : List Str := ["machine", "door", "begins", "now", "resets", "clock"]
theorem S_begun_at : FnScope ["machine", "door", "begins", "now", "resets", "clock"] ["machine", "door", "begins", "now"] (defScope (top 61)) := ⟨rfl, rfl, rfl, by decide +kernel, rfl, by decide +kernel, by decide +kernel⟩
theorem c_begun_at (T : Txt K mg) (hf : mg "begun_at" = some (.ref (He.ga K "begun_at"))) (F : FnP K "begun_at" 61) (c_Machine_clocks : CalP P w K mg base 1 "Machine" "clocks" m_Machine_clocks) (c_Machine_doors : CalP P w K mg base 1 "Machine" "doors" m_Machine_doors) : CalY P w K mg base 3 "begun_at" 4 m_begun_at := by
  obtain ⟨fd, F⟩ := F
  have cP_clocks : ∀ D m, LP_clocks D = some m → Cls K (He.ga K D) ∧ CalP P w K mg base 1 D "clocks" m := by
    intro D m h
    unfold LP_clocks at h
    by_cases e_Machine : D = "Machine"
    · subst e_Machine; rw [if_pos rfl] at h; cases h; exact ⟨T.ob.cls "Machine" (by decide +kernel), c_Machine_clocks.mono (by decide)⟩
    rw [if_neg e_Machine] at h
    cases h
  have cP_doors : ∀ D m, LP_doors D = some m → Cls K (He.ga K D) ∧ CalP P w K mg base 1 D "doors" m := by
    intro D m h
    unfold LP_doors at h
    by_cases e_Machine : D = "Machine"
    · subst e_Machine; rw [if_pos rfl] at h; cases h; exact ⟨T.ob.cls "Machine" (by decide +kernel), c_Machine_doors.mono (by decide)⟩
    rw [if_neg e_Machine] at h
    cases h
  refine calY_ok false (k := 2) hf F S_begun_at (fun _ _ _ _ _ _ us hl => match us, hl with | [_, _, _, _], _ => rfl) (fun cdv A outer s H E hr => ?_)
  exact (yss_cons (ys_set (i := 4) S_begun_at.nd (yj_item (yj_item (yj_prop (L := LP_doors) (fun C m h => ⟨(cP_doors C m h).1, (cP_doors C m h).2.mono (by decide)⟩) hr (yj_var 0)) (yj_var 1)) (yj_c ej_int)))
    (yss_one (ys_ret (yj_ty call_tuple_of oTupleOf_ok T.n_tuple (yaj_cons (upLc (ej_lc (own := [("clock", 5)]) rfl S_begun_at.nd (vj_rg1 T.n_range (dnE (W := wF) (yj_prop (L := LP_clocks) (fun C m h => ⟨(cP_clocks C m h).1, (cP_clocks C m h).2.mono (by decide)⟩) hr (yj_var 0)))) (blkOk_by (N := N_begun_at) (sc := defScope (top 61)) (by decide +kernel)) (by decide) (fun _ _ _ _ _ => (gj_nm 5 S_begun_at.nd)) (fun _ _ _ _ _ => tsj_nil) (fun _ _ _ _ _ => (dnE (W := wF) (yj_if (zj_cmp (op_inP (hu200 hr.r)) oIn_ok (yj_var 5) (yj_var 4)) (yj_var 3) (yj_item (yj_var 2) (yj_var 5))))))) yaj_nil) (by decide +kernel)))))
abbrev N_reading_rows : List Str := ["machine", "times", "run", "begins", "rows", "time", "tick", "lag", "door", "begin"]
theorem S_reading_rows : FnScope ["machine", "times", "run", "begins", "rows", "time", "tick", "lag", "door", "begin"] ["machine", "times", "run"] (defScope (top 62)) := ⟨rfl, rfl, rfl, by decide +kernel, rfl, by decide +kernel, by decide +kernel⟩
theorem c_reading_rows (T : Txt K mg) (hf : mg "reading_rows" = some (.ref (He.ga K "reading_rows"))) (F : FnP K "reading_rows" 62) (c_Machine_clocks : CalP P w K mg base 1 "Machine" "clocks" m_Machine_clocks) (c_begun_at : CalY P w K mg base 3 "begun_at" 4 m_begun_at) (c_difference_of : CalY P w K mg base 2 "difference_of" 2 m_difference_of) : CalY P w K mg base 4 "reading_rows" 3 m_reading_rows := by
  obtain ⟨fd, F⟩ := F
  have cP_clocks : ∀ D m, LP_clocks D = some m → Cls K (He.ga K D) ∧ CalP P w K mg base 2 D "clocks" m := by
    intro D m h
    unfold LP_clocks at h
    by_cases e_Machine : D = "Machine"
    · subst e_Machine; rw [if_pos rfl] at h; cases h; exact ⟨T.ob.cls "Machine" (by decide +kernel), c_Machine_clocks.mono (by decide)⟩
    rw [if_neg e_Machine] at h
    cases h
  refine calY_ok false (k := 3) hf F S_reading_rows (fun _ _ _ _ _ _ us hl => match us, hl with | [_, _, _], _ => rfl) (fun cdv A outer s H E hr => ?_)
  exact (yss_cons (ys_set (i := 3) S_reading_rows.nd (yj_repW (yj_tup (yaj_cons (yj_c (ej_gtup T.t_ZERO.1 T.t_ZERO.2)) yaj_nil)) (yj_prop (L := LP_clocks) (fun C m h => ⟨(cP_clocks C m h).1, (cP_clocks C m h).2.mono (by decide)⟩) hr (yj_var 0))))
    (yss_cons (ys_set (i := 4) S_reading_rows.nd (yj_lstC yaj_nil))
    (yss_cons (ys_for (passes_of rfl) rfl (ij_zipW T.n_zip (dnE (W := wF) (yj_var 1)) (dnE (W := wF) (yj_var 2))) (gj_tp rfl (gjs_cons (gj_nm 5 S_reading_rows.nd) (gjs_cons (gj_tp rfl (gjs_cons (gj_nm 6 S_reading_rows.nd) (gjs_cons (gj_nm 7 S_reading_rows.nd) (gjs_cons (gj_nm 8 S_reading_rows.nd) gjs_nil))) (lCons_len (lCons_len (lCons_len lNil_len)))) gjs_nil)) (lCons_len (lCons_len lNil_len))) (yss_cons (ys_app (yj_var 4) (yj_ty call_tuple_of oTupleOf_ok T.n_tuple (yaj_cons (upLc (ej_lc (own := [("begin", 9)]) rfl S_reading_rows.nd (ij_seq (dnE (W := wF) (yj_var 3))) (blkOk_by (N := N_reading_rows) (sc := defScope (top 62)) (by decide +kernel)) (by decide) (fun _ _ _ _ _ => (gj_nm 9 S_reading_rows.nd)) (fun _ _ _ _ _ => tsj_nil) (fun _ _ _ _ _ => (dnE (W := wF) (yj_call takesF (c_difference_of.mono (by decide)) hr (yaj_cons (yj_var 5) (yaj_cons (yj_var 9) yaj_nil))))))) yaj_nil) (by decide +kernel)))
    (yss_one (ys_set (i := 3) S_reading_rows.nd (yj_call (takes_of rfl rfl rfl rfl) (c_begun_at.mono (by decide)) hr (yaj_cons (yj_var 0) (yaj_cons (yj_var 8) (yaj_cons (yj_var 3) (yaj_cons (yj_var 5) yaj_nil)))))))))
    (yss_one (ys_ret (yj_var 4))))))
abbrev N_counter_rows : List Str := ["machine", "own", "run", "begins", "rows", "tick", "lag", "door", "seen", "begin"]
theorem S_counter_rows : FnScope ["machine", "own", "run", "begins", "rows", "tick", "lag", "door", "seen", "begin"] ["machine", "own", "run"] (defScope (top 60)) := ⟨rfl, rfl, rfl, by decide +kernel, rfl, by decide +kernel, by decide +kernel⟩
theorem c_counter_rows (T : Txt K mg) (hf : mg "counter_rows" = some (.ref (He.ga K "counter_rows"))) (F : FnP K "counter_rows" 60) (c_Machine_clocks : CalP P w K mg base 1 "Machine" "clocks" m_Machine_clocks) (c_begun_at : CalY P w K mg base 3 "begun_at" 4 m_begun_at) (c_notice_ticks : CalY P w K mg base 1 "notice_ticks" 2 m_notice_ticks) : CalY P w K mg base 4 "counter_rows" 3 m_counter_rows := by
  obtain ⟨fd, F⟩ := F
  have cP_clocks : ∀ D m, LP_clocks D = some m → Cls K (He.ga K D) ∧ CalP P w K mg base 2 D "clocks" m := by
    intro D m h
    unfold LP_clocks at h
    by_cases e_Machine : D = "Machine"
    · subst e_Machine; rw [if_pos rfl] at h; cases h; exact ⟨T.ob.cls "Machine" (by decide +kernel), c_Machine_clocks.mono (by decide)⟩
    rw [if_neg e_Machine] at h
    cases h
  refine calY_ok false (k := 3) hf F S_counter_rows (fun _ _ _ _ _ _ us hl => match us, hl with | [_, _, _], _ => rfl) (fun cdv A outer s H E hr => ?_)
  exact (yss_cons (ys_set (i := 3) S_counter_rows.nd (yj_repW (yj_tup (yaj_cons (yj_c ej_int) yaj_nil)) (yj_prop (L := LP_clocks) (fun C m h => ⟨(cP_clocks C m h).1, (cP_clocks C m h).2.mono (by decide)⟩) hr (yj_var 0))))
    (yss_cons (ys_set (i := 4) S_counter_rows.nd (yj_lstC yaj_nil))
    (yss_cons (ys_for (passes_of rfl) rfl (ij_zipW T.n_zip (dnE (W := wF) (yj_var 2)) (dnE (W := wF) (yj_call takesF (c_notice_ticks.mono (by decide)) hr (yaj_cons (yj_var 1) (yaj_cons (yj_var 2) yaj_nil))))) (gj_tp rfl (gjs_cons (gj_tp rfl (gjs_cons (gj_nm 5 S_counter_rows.nd) (gjs_cons (gj_nm 6 S_counter_rows.nd) (gjs_cons (gj_nm 7 S_counter_rows.nd) gjs_nil))) (lCons_len (lCons_len (lCons_len lNil_len)))) (gjs_cons (gj_nm 8 S_counter_rows.nd) gjs_nil)) (lCons_len (lCons_len lNil_len))) (yss_cons (ys_app (yj_var 4) (yj_ty call_tuple_of oTupleOf_ok T.n_tuple (yaj_cons (upLc (ej_lc (own := [("begin", 9)]) rfl S_counter_rows.nd (ij_seq (dnE (W := wF) (yj_var 3))) (blkOk_by (N := N_counter_rows) (sc := defScope (top 60)) (by decide +kernel)) (by decide) (fun _ _ _ _ _ => (gj_nm 9 S_counter_rows.nd)) (fun _ _ _ _ _ => tsj_nil) (fun _ _ _ _ _ => (dnE (W := wF) (yj_sub (yj_var 5) (yj_var 9)))))) yaj_nil) (by decide +kernel)))
    (yss_one (ys_set (i := 3) S_counter_rows.nd (yj_call (takes_of rfl rfl rfl rfl) (c_begun_at.mono (by decide)) hr (yaj_cons (yj_var 0) (yaj_cons (yj_var 7) (yaj_cons (yj_var 3) (yaj_cons (yj_var 8) yaj_nil)))))))))
    (yss_one (ys_ret (yj_var 4))))))
abbrev N_Machine_limits : List Str := ["self"]
theorem S_Machine_limits : FnScope ["self"] ["self"] (defScope (top 1002)) := ⟨rfl, rfl, rfl, by decide +kernel, rfl, by decide +kernel, by decide +kernel⟩
theorem c_Machine_limits (T : Txt K mg) (F : ∃ fd, FunD K "limits" "Machine.limits" (defArgs (top 1002)) (defBody (top 1002)) (defScope (top 1002)) [] [] (He5.wf K (He.ga K "Machine") "property" "limits") fd)  : CalP P w K mg base 1 "Machine" "limits" m_Machine_limits := by
  obtain ⟨fd, F⟩ := F
  refine calP_ok (k := 0) T.pr_Machine_limits F S_Machine_limits (fun _ _ _ _ _ _ us hl => match us, hl with | [_], _ => rfl) (fun cdv A outer s H E hr => ?_)
  exact (yss_one (ys_ret (yj_fld T.ob T.na__limits (yj_var 0))))
abbrev N_asked_at : List Str := ["machine", "index", "room", "guards", "resets", "goal", "asked", "clock", "low", "high"]
theorem S_asked_at : FnScope ["machine", "index", "room", "guards", "resets", "goal", "asked", "clock", "low", "high"] ["machine", "index"] (defScope (top 38)) := ⟨rfl, rfl, rfl, by decide +kernel, rfl, by decide +kernel, by decide +kernel⟩
theorem c_asked_at (T : Txt K mg) (hf : mg "asked_at" = some (.ref (He.ga K "asked_at"))) (F : FnP K "asked_at" 38) (c_Machine_clocks : CalP P w K mg base 1 "Machine" "clocks" m_Machine_clocks) (c_Machine_doors : CalP P w K mg base 1 "Machine" "doors" m_Machine_doors) (c_Machine_limits : CalP P w K mg base 1 "Machine" "limits" m_Machine_limits) : CalY P w K mg base 3 "asked_at" 2 m_asked_at := by
  obtain ⟨fd, F⟩ := F
  have cP_clocks : ∀ D m, LP_clocks D = some m → Cls K (He.ga K D) ∧ CalP P w K mg base 1 D "clocks" m := by
    intro D m h
    unfold LP_clocks at h
    by_cases e_Machine : D = "Machine"
    · subst e_Machine; rw [if_pos rfl] at h; cases h; exact ⟨T.ob.cls "Machine" (by decide +kernel), c_Machine_clocks.mono (by decide)⟩
    rw [if_neg e_Machine] at h
    cases h
  have cP_doors : ∀ D m, LP_doors D = some m → Cls K (He.ga K D) ∧ CalP P w K mg base 1 D "doors" m := by
    intro D m h
    unfold LP_doors at h
    by_cases e_Machine : D = "Machine"
    · subst e_Machine; rw [if_pos rfl] at h; cases h; exact ⟨T.ob.cls "Machine" (by decide +kernel), c_Machine_doors.mono (by decide)⟩
    rw [if_neg e_Machine] at h
    cases h
  have cP_limits : ∀ D m, LP_limits D = some m → Cls K (He.ga K D) ∧ CalP P w K mg base 1 D "limits" m := by
    intro D m h
    unfold LP_limits at h
    by_cases e_Machine : D = "Machine"
    · subst e_Machine; rw [if_pos rfl] at h; cases h; exact ⟨T.ob.cls "Machine" (by decide +kernel), c_Machine_limits.mono (by decide)⟩
    rw [if_neg e_Machine] at h
    cases h
  refine calY_ok false (k := 2) hf F S_asked_at (fun _ _ _ _ _ _ us hl => match us, hl with | [_, _], _ => rfl) (fun cdv A outer s H E hr => ?_)
  exact (yss_cons (ys_asg (yj_item (yj_prop (L := LP_doors) (fun C m h => ⟨(cP_doors C m h).1, (cP_doors C m h).2.mono (by decide)⟩) hr (yj_var 0)) (yj_var 1)) (gj_tp rfl (gjs_cons (gj_nm 2 S_asked_at.nd) (gjs_cons (gj_nm 3 S_asked_at.nd) (gjs_cons (gj_nm 4 S_asked_at.nd) (gjs_cons (gj_nm 5 S_asked_at.nd) gjs_nil)))) (lCons_len (lCons_len (lCons_len (lCons_len lNil_len))))))
    (yss_cons (ys_set (i := 6) S_asked_at.nd (yj_lstC yaj_nil))
    (yss_cons (ys_for (passes_of rfl) rfl (vj_rg1 T.n_range (dnE (W := wF) (yj_prop (L := LP_clocks) (fun C m h => ⟨(cP_clocks C m h).1, (cP_clocks C m h).2.mono (by decide)⟩) hr (yj_var 0)))) (gj_nm 7 S_asked_at.nd) (yss_cons (ys_asg (yj_item (yj_var 3) (yj_var 7)) (gj_tp rfl (gjs_cons (gj_nm 8 S_asked_at.nd) (gjs_cons (gj_nm 9 S_asked_at.nd) gjs_nil)) (lCons_len (lCons_len lNil_len))))
    (yss_cons (ys_set (i := 9) S_asked_at.nd (yj_bi (call_min2 rfl) oMin2_ok T.n_min (yaj_cons (yj_var 9) (yaj_cons (yj_item (yj_item (yj_prop (L := LP_limits) (fun C m h => ⟨(cP_limits C m h).1, (cP_limits C m h).2.mono (by decide)⟩) hr (yj_var 0)) (yj_var 2)) (yj_var 7)) yaj_nil)) (by decide +kernel)))
    (yss_one (ys_app (yj_var 6) (yj_tup (yaj_cons (yj_var 8) (yaj_cons (yj_if (zj_cmp (op_inP (hu200 hr.r)) oIn_ok (yj_var 7) (yj_var 4)) (yj_var 9) (yj_bi (call_min2 rfl) oMin2_ok T.n_min (yaj_cons (yj_var 9) (yaj_cons (yj_item (yj_item (yj_prop (L := LP_limits) (fun C m h => ⟨(cP_limits C m h).1, (cP_limits C m h).2.mono (by decide)⟩) hr (yj_var 0)) (yj_var 5)) (yj_var 7)) yaj_nil)) (by decide +kernel))) yaj_nil))))))))
    (yss_one (ys_ret (yj_ty call_tuple_of oTupleOf_ok T.n_tuple (yaj_cons (yj_var 6) yaj_nil) (by decide +kernel)))))))
abbrev N_do_keep_asked : List Str := ["asked", "ahead", "low", "high", "top", "bottom"]
theorem S_do_keep_asked : FnScope ["asked", "ahead", "low", "high", "top", "bottom"] ["asked", "ahead"] (defScope (top 65)) := ⟨rfl, rfl, rfl, by decide +kernel, rfl, by decide +kernel, by decide +kernel⟩
theorem c_do_keep_asked (T : Txt K mg) (hf : mg "do_keep_asked" = some (.ref (He.ga K "do_keep_asked"))) (F : FnP K "do_keep_asked" 65)  : CalY P w K mg base 1 "do_keep_asked" 2 m_do_keep_asked := by
  obtain ⟨fd, F⟩ := F
  refine calY_ok false (k := 0) hf F S_do_keep_asked (fun _ _ _ _ _ _ us hl => match us, hl with | [_, _], _ => rfl) (fun cdv A outer s H E hr => ?_)
  exact (yss_one (ys_ret (yj_bi (cr_all rfl) oAll_ok T.n_all (yaj_cons (upLc (ej_lc (own := [("low", 2), ("high", 3), ("top", 4), ("bottom", 5)]) rfl S_do_keep_asked.nd (ij_zipW T.n_zip (dnE (W := wF) (yj_var 0)) (dnE (W := wF) (yj_var 1))) (blkOk_by (N := N_do_keep_asked) (sc := defScope (top 65)) (by decide +kernel)) (by decide) (fun _ _ _ _ _ => (gj_tp rfl (gjs_cons (gj_tp rfl (gjs_cons (gj_nm 2 S_do_keep_asked.nd) (gjs_cons (gj_nm 3 S_do_keep_asked.nd) gjs_nil)) (lCons_len (lCons_len lNil_len))) (gjs_cons (gj_tp rfl (gjs_cons (gj_nm 4 S_do_keep_asked.nd) (gjs_cons (gj_nm 5 S_do_keep_asked.nd) gjs_nil)) (lCons_len (lCons_len lNil_len))) gjs_nil)) (lCons_len (lCons_len lNil_len)))) (fun _ _ _ _ _ => tsj_nil) (fun _ _ _ _ _ => (dnE (W := wF) (yj_chain op_le qLe op_le qLe (yj_mul (yj_var 2) (yj_var 5)) (yj_var 4) (yj_mul (yj_var 3) (yj_var 5))))))) yaj_nil) (by decide +kernel))))
abbrev N_with_zeros : List Str := ["readings", "clocks", "clock"]
theorem S_with_zeros : FnScope ["readings", "clocks", "clock"] ["readings", "clocks"] (defScope (top 45)) := ⟨rfl, rfl, rfl, by decide +kernel, rfl, by decide +kernel, by decide +kernel⟩
theorem c_with_zeros (T : Txt K mg) (hf : mg "with_zeros" = some (.ref (He.ga K "with_zeros"))) (F : FnP K "with_zeros" 45)  : CalY P w K mg base 1 "with_zeros" 2 m_with_zeros := by
  obtain ⟨fd, F⟩ := F
  refine calY_ok false (k := 0) hf F S_with_zeros (fun _ _ _ _ _ _ us hl => match us, hl with | [_, _], _ => rfl) (fun cdv A outer s H E hr => ?_)
  exact (yss_one (ys_ret (yj_ty call_tuple_of oTupleOf_ok T.n_tuple (yaj_cons (upLc (ej_lc (own := [("clock", 2)]) rfl S_with_zeros.nd (vj_rg1 T.n_range (dnE (W := wF) (yj_bi call_len oLen_ok T.n_len (yaj_cons (yj_var 0) yaj_nil) (by decide +kernel)))) (blkOk_by (N := N_with_zeros) (sc := defScope (top 45)) (by decide +kernel)) (by decide) (fun _ _ _ _ _ => (gj_nm 2 S_with_zeros.nd)) (fun _ _ _ _ _ => tsj_nil) (fun _ _ _ _ _ => (dnE (W := wF) (yj_if (zj_cmp (op_inP (hu200 hr.r)) oIn_ok (yj_var 2) (yj_var 1)) (yj_c (ej_gtup T.t_ZERO.1 T.t_ZERO.2)) (yj_item (yj_var 0) (yj_var 2))))))) yaj_nil) (by decide +kernel))))
abbrev N_beyond : List Str := ["one", "other"]
theorem S_beyond : FnScope ["one", "other"] ["one", "other"] (defScope (top 48)) := ⟨rfl, rfl, rfl, by decide +kernel, rfl, by decide +kernel, by decide +kernel⟩
theorem c_beyond (T : Txt K mg) (hf : mg "beyond" = some (.ref (He.ga K "beyond"))) (F : FnP K "beyond" 48) (c_difference_of : CalY P w K mg base 2 "difference_of" 2 m_difference_of) (c_order_of : CalY P w K mg base 1 "order_of" 2 m_order_of) : CalY P w K mg base 3 "beyond" 2 m_beyond := by
  obtain ⟨fd, F⟩ := F
  refine calY_ok false (k := 2) hf F S_beyond (fun _ _ _ _ _ _ us hl => match us, hl with | [_, _], _ => rfl) (fun cdv A outer s H E hr => ?_)
  exact (yss_one (ys_ret (yj_if (zj_cmp op_gt qGt (yj_call (takes_of rfl rfl rfl rfl) (c_order_of.mono (by decide)) hr (yaj_cons (yj_var 0) (yaj_cons (yj_var 1) yaj_nil))) (yj_c ej_int)) (yj_call (takes_of rfl rfl rfl rfl) (c_difference_of.mono (by decide)) hr (yaj_cons (yj_var 0) (yaj_cons (yj_var 1) yaj_nil))) (yj_c (ej_gtup T.t_ZERO.1 T.t_ZERO.2)))))
abbrev N_all_above : List Str := ["readings", "numbers", "reading", "number"]
theorem S_all_above : FnScope ["readings", "numbers", "reading", "number"] ["readings", "numbers"] (defScope (top 47)) := ⟨rfl, rfl, rfl, by decide +kernel, rfl, by decide +kernel, by decide +kernel⟩
theorem c_all_above (T : Txt K mg) (hf : mg "all_above" = some (.ref (He.ga K "all_above"))) (F : FnP K "all_above" 47) (c_beyond : CalY P w K mg base 3 "beyond" 2 m_beyond) : CalY P w K mg base 4 "all_above" 2 m_all_above := by
  obtain ⟨fd, F⟩ := F
  refine calY_ok false (k := 3) hf F S_all_above (fun _ _ _ _ _ _ us hl => match us, hl with | [_, _], _ => rfl) (fun cdv A outer s H E hr => ?_)
  exact (yss_one (ys_ret (yj_ty call_tuple_of oTupleOf_ok T.n_tuple (yaj_cons (upLc (ej_lc (own := [("reading", 2), ("number", 3)]) rfl S_all_above.nd (ij_zipW T.n_zip (dnE (W := wF) (yj_var 0)) (dnE (W := wF) (yj_var 1))) (blkOk_by (N := N_all_above) (sc := defScope (top 47)) (by decide +kernel)) (by decide) (fun _ _ _ _ _ => (gj_tp rfl (gjs_cons (gj_nm 2 S_all_above.nd) (gjs_cons (gj_nm 3 S_all_above.nd) gjs_nil)) (lCons_len (lCons_len lNil_len)))) (fun _ _ _ _ _ => tsj_nil) (fun _ _ _ _ _ => (dnE (W := wF) (yj_call takesF (c_beyond.mono (by decide)) hr (yaj_cons (yj_var 2) (yaj_cons (yj_tup (yaj_cons (yj_var 3) (yaj_cons (yj_c ej_int) yaj_nil))) yaj_nil))))))) yaj_nil) (by decide +kernel))))
abbrev N_step_misses : List Str := ["machine", "index", "ahead", "behind", "room", "guards", "resets", "goal", "lows", "highs", "low", "high", "number", "reading"]
theorem S_step_misses : FnScope ["machine", "index", "ahead", "behind", "room", "guards", "resets", "goal", "lows", "highs", "low", "high", "number", "reading"] ["machine", "index", "ahead", "behind"] (defScope (top 46)) := ⟨rfl, rfl, rfl, by decide +kernel, rfl, by decide +kernel, by decide +kernel⟩
theorem c_step_misses (T : Txt K mg) (hf : mg "step_misses" = some (.ref (He.ga K "step_misses"))) (F : FnP K "step_misses" 46) (c_Machine_doors : CalP P w K mg base 1 "Machine" "doors" m_Machine_doors) (c_Machine_limits : CalP P w K mg base 1 "Machine" "limits" m_Machine_limits) (c_all_above : CalY P w K mg base 4 "all_above" 2 m_all_above) (c_beyond : CalY P w K mg base 3 "beyond" 2 m_beyond) : CalY P w K mg base 5 "step_misses" 4 m_step_misses := by
  obtain ⟨fd, F⟩ := F
  have cP_doors : ∀ D m, LP_doors D = some m → Cls K (He.ga K D) ∧ CalP P w K mg base 3 D "doors" m := by
    intro D m h
    unfold LP_doors at h
    by_cases e_Machine : D = "Machine"
    · subst e_Machine; rw [if_pos rfl] at h; cases h; exact ⟨T.ob.cls "Machine" (by decide +kernel), c_Machine_doors.mono (by decide)⟩
    rw [if_neg e_Machine] at h
    cases h
  have cP_limits : ∀ D m, LP_limits D = some m → Cls K (He.ga K D) ∧ CalP P w K mg base 3 D "limits" m := by
    intro D m h
    unfold LP_limits at h
    by_cases e_Machine : D = "Machine"
    · subst e_Machine; rw [if_pos rfl] at h; cases h; exact ⟨T.ob.cls "Machine" (by decide +kernel), c_Machine_limits.mono (by decide)⟩
    rw [if_neg e_Machine] at h
    cases h
  refine calY_ok false (k := 4) hf F S_step_misses (fun _ _ _ _ _ _ us hl => match us, hl with | [_, _, _, _], _ => rfl) (fun cdv A outer s H E hr => ?_)
  exact (yss_cons (ys_asg (yj_item (yj_prop (L := LP_doors) (fun C m h => ⟨(cP_doors C m h).1, (cP_doors C m h).2.mono (by decide)⟩) hr (yj_var 0)) (yj_var 1)) (gj_tp rfl (gjs_cons (gj_nm 4 S_step_misses.nd) (gjs_cons (gj_nm 5 S_step_misses.nd) (gjs_cons (gj_nm 6 S_step_misses.nd) (gjs_cons (gj_nm 7 S_step_misses.nd) gjs_nil)))) (lCons_len (lCons_len (lCons_len (lCons_len lNil_len))))))
    (yss_cons (upSLc (sj_setLc (i := 8) (own := [("low", 10), ("high", 11)]) rfl S_step_misses.nd (ij_seq (dnE (W := wF) (yj_var 5))) (blkOk_by (N := N_step_misses) (sc := defScope (top 46)) (by decide +kernel)) (by decide) (fun _ _ _ _ _ => (gj_tp rfl (gjs_cons (gj_nm 10 S_step_misses.nd) (gjs_cons (gj_nm 11 S_step_misses.nd) gjs_nil)) (lCons_len (lCons_len lNil_len)))) (fun _ _ _ _ _ => tsj_nil) (fun _ _ _ _ _ => (dnE (W := wF) (yj_var 10)))))
    (yss_cons (upSLc (sj_setLc (i := 9) (own := [("low", 10), ("high", 11)]) rfl S_step_misses.nd (ij_seq (dnE (W := wF) (yj_var 5))) (blkOk_by (N := N_step_misses) (sc := defScope (top 46)) (by decide +kernel)) (by decide) (fun _ _ _ _ _ => (gj_tp rfl (gjs_cons (gj_nm 10 S_step_misses.nd) (gjs_cons (gj_nm 11 S_step_misses.nd) gjs_nil)) (lCons_len (lCons_len lNil_len)))) (fun _ _ _ _ _ => tsj_nil) (fun _ _ _ _ _ => (dnE (W := wF) (yj_var 11)))))
    (yss_cons (ys_set (i := 10) S_step_misses.nd (yj_ty call_tuple_of oTupleOf_ok T.n_tuple (yaj_cons (upLc (ej_lc (own := [("number", 12), ("reading", 13)]) rfl S_step_misses.nd (ij_zipW T.n_zip (dnE (W := wF) (yj_var 8)) (dnE (W := wF) (yj_var 2))) (blkOk_by (N := N_step_misses) (sc := defScope (top 46)) (by decide +kernel)) (by decide) (fun _ _ _ _ _ => (gj_tp rfl (gjs_cons (gj_nm 12 S_step_misses.nd) (gjs_cons (gj_nm 13 S_step_misses.nd) gjs_nil)) (lCons_len (lCons_len lNil_len)))) (fun _ _ _ _ _ => tsj_nil) (fun _ _ _ _ _ => (dnE (W := wF) (yj_call takesF (c_beyond.mono (by decide)) hr (yaj_cons (yj_tup (yaj_cons (yj_var 12) (yaj_cons (yj_c ej_int) yaj_nil))) (yaj_cons (yj_var 13) yaj_nil))))))) yaj_nil) (by decide +kernel)))
    (yss_one (ys_ret (yj_tup (yaj_cons (yj_call (takes_of rfl rfl rfl rfl) (c_all_above.mono (by decide)) hr (yaj_cons (yj_var 2) (yaj_cons (yj_item (yj_prop (L := LP_limits) (fun C m h => ⟨(cP_limits C m h).1, (cP_limits C m h).2.mono (by decide)⟩) hr (yj_var 0)) (yj_var 4)) yaj_nil))) (yaj_cons (yj_var 10) (yaj_cons (yj_call (takes_of rfl rfl rfl rfl) (c_all_above.mono (by decide)) hr (yaj_cons (yj_var 2) (yaj_cons (yj_var 9) yaj_nil))) (yaj_cons (yj_call (takes_of rfl rfl rfl rfl) (c_all_above.mono (by decide)) hr (yaj_cons (yj_var 3) (yaj_cons (yj_item (yj_prop (L := LP_limits) (fun C m h => ⟨(cP_limits C m h).1, (cP_limits C m h).2.mono (by decide)⟩) hr (yj_var 0)) (yj_var 7)) yaj_nil))) yaj_nil)))))))))))
abbrev N_first_missed : List Str := ["machine", "door", "ahead", "behind", "word", "row", "clock"]
theorem S_first_missed : FnScope ["machine", "door", "ahead", "behind", "word", "row", "clock"] ["machine", "door", "ahead"] (defScope (top 66)) := ⟨rfl, rfl, rfl, by decide +kernel, rfl, by decide +kernel, by decide +kernel⟩
theorem c_first_missed (T : Txt K mg) (hf : mg "first_missed" = some (.ref (He.ga K "first_missed"))) (F : FnP K "first_missed" 66) (c_Machine_clocks : CalP P w K mg base 1 "Machine" "clocks" m_Machine_clocks) (c_Machine_doors : CalP P w K mg base 1 "Machine" "doors" m_Machine_doors) (c_step_misses : CalY P w K mg base 5 "step_misses" 4 m_step_misses) (c_with_zeros : CalY P w K mg base 1 "with_zeros" 2 m_with_zeros) : CalY P w K mg base 6 "first_missed" 3 m_first_missed := by
  obtain ⟨fd, F⟩ := F
  have cP_clocks : ∀ D m, LP_clocks D = some m → Cls K (He.ga K D) ∧ CalP P w K mg base 4 D "clocks" m := by
    intro D m h
    unfold LP_clocks at h
    by_cases e_Machine : D = "Machine"
    · subst e_Machine; rw [if_pos rfl] at h; cases h; exact ⟨T.ob.cls "Machine" (by decide +kernel), c_Machine_clocks.mono (by decide)⟩
    rw [if_neg e_Machine] at h
    cases h
  have cP_doors : ∀ D m, LP_doors D = some m → Cls K (He.ga K D) ∧ CalP P w K mg base 4 D "doors" m := by
    intro D m h
    unfold LP_doors at h
    by_cases e_Machine : D = "Machine"
    · subst e_Machine; rw [if_pos rfl] at h; cases h; exact ⟨T.ob.cls "Machine" (by decide +kernel), c_Machine_doors.mono (by decide)⟩
    rw [if_neg e_Machine] at h
    cases h
  refine calY_ok false (k := 5) hf F S_first_missed (fun _ _ _ _ _ _ us hl => match us, hl with | [_, _, _], _ => rfl) (fun cdv A outer s H E hr => ?_)
  exact (yss_cons (ys_set (i := 3) S_first_missed.nd (yj_call (takes_of rfl rfl rfl rfl) (c_with_zeros.mono (by decide)) hr (yaj_cons (yj_var 2) (yaj_cons (yj_item (yj_item (yj_prop (L := LP_doors) (fun C m h => ⟨(cP_doors C m h).1, (cP_doors C m h).2.mono (by decide)⟩) hr (yj_var 0)) (yj_var 1)) (yj_c ej_int)) yaj_nil))))
    (yss_cons (ys_for (passes_of rfl) rfl (ij_zipW T.n_zip (dnE (W := wF) (yj_c (ej_gtup T.t_WORDS.1 T.t_WORDS.2))) (dnE (W := wF) (yj_call takesF (c_step_misses.mono (by decide)) hr (yaj_cons (yj_var 0) (yaj_cons (yj_var 1) (yaj_cons (yj_var 2) (yaj_cons (yj_var 3) yaj_nil))))))) (gj_tp rfl (gjs_cons (gj_nm 4 S_first_missed.nd) (gjs_cons (gj_nm 5 S_first_missed.nd) gjs_nil)) (lCons_len (lCons_len lNil_len))) (yss_one (ys_for (passes_of rfl) rfl (vj_rg1 T.n_range (dnE (W := wF) (yj_prop (L := LP_clocks) (fun C m h => ⟨(cP_clocks C m h).1, (cP_clocks C m h).2.mono (by decide)⟩) hr (yj_var 0)))) (gj_nm 6 S_first_missed.nd) (yss_one (ys_if (zj_cmp (op_neP (hu200 hr.r)) oEq_ok (yj_item (yj_var 5) (yj_var 6)) (yj_c (ej_gtup T.t_ZERO.1 T.t_ZERO.2))) (yss_one (ys_ret (yj_tup (yaj_cons (yj_var 4) (yaj_cons (yj_var 6) yaj_nil))))) yss_nil)))))
    yss_never))
abbrev N_first_fault : List Str := ["machine", "own", "k", "run", "times", "ticks", "rows", "counts", "asked", "index", "tick", "lag", "door", "ahead", "count"]
theorem S_first_fault : FnScope ["machine", "own", "k", "run", "times", "ticks", "rows", "counts", "asked", "index", "tick", "lag", "door", "ahead", "count"] ["machine", "own", "k", "run"] (defScope (top 64)) := ⟨rfl, rfl, rfl, by decide +kernel, rfl, by decide +kernel, by decide +kernel⟩
theorem c_first_fault (T : Txt K mg) (hf : mg "first_fault" = some (.ref (He.ga K "first_fault"))) (F : FnP K "first_fault" 64) (c_Machine_doors : CalP P w K mg base 1 "Machine" "doors" m_Machine_doors) (c_asked_at : CalY P w K mg base 3 "asked_at" 2 m_asked_at) (c_counter_rows : CalY P w K mg base 4 "counter_rows" 3 m_counter_rows) (c_do_keep_asked : CalY P w K mg base 1 "do_keep_asked" 2 m_do_keep_asked) (c_door_moments : CalY P w K mg base 3 "door_moments" 2 m_door_moments) (c_first_missed : CalY P w K mg base 6 "first_missed" 3 m_first_missed) (c_notice_ticks : CalY P w K mg base 1 "notice_ticks" 2 m_notice_ticks) (c_order_of : CalY P w K mg base 1 "order_of" 2 m_order_of) (c_reading_rows : CalY P w K mg base 4 "reading_rows" 3 m_reading_rows) : CalY P w K mg base 7 "first_fault" 4 m_first_fault := by
  obtain ⟨fd, F⟩ := F
  have cP_doors : ∀ D m, LP_doors D = some m → Cls K (He.ga K D) ∧ CalP P w K mg base 5 D "doors" m := by
    intro D m h
    unfold LP_doors at h
    by_cases e_Machine : D = "Machine"
    · subst e_Machine; rw [if_pos rfl] at h; cases h; exact ⟨T.ob.cls "Machine" (by decide +kernel), c_Machine_doors.mono (by decide)⟩
    rw [if_neg e_Machine] at h
    cases h
  refine calY_ok false (k := 6) hf F S_first_fault (fun _ _ _ _ _ _ us hl => match us, hl with | [_, _, _, _], _ => rfl) (fun cdv A outer s H E hr => ?_)
  exact (yss_cons (ys_set (i := 4) S_first_fault.nd (yj_call (takes_of rfl rfl rfl rfl) (c_door_moments.mono (by decide)) hr (yaj_cons (yj_var 2) (yaj_cons (yj_var 3) yaj_nil))))
    (yss_cons (ys_set (i := 5) S_first_fault.nd (yj_call (takes_of rfl rfl rfl rfl) (c_notice_ticks.mono (by decide)) hr (yaj_cons (yj_var 1) (yaj_cons (yj_var 3) yaj_nil))))
    (yss_cons (ys_set (i := 6) S_first_fault.nd (yj_call (takes_of rfl rfl rfl rfl) (c_reading_rows.mono (by decide)) hr (yaj_cons (yj_var 0) (yaj_cons (yj_var 4) (yaj_cons (yj_var 3) yaj_nil)))))
    (yss_cons (ys_set (i := 7) S_first_fault.nd (yj_call (takes_of rfl rfl rfl rfl) (c_counter_rows.mono (by decide)) hr (yaj_cons (yj_var 0) (yaj_cons (yj_var 1) (yaj_cons (yj_var 3) yaj_nil)))))
    (yss_cons (upSLc (sj_setLc (i := 8) (own := [("door", 12)]) rfl S_first_fault.nd (vj_rg1 T.n_range (dnE (W := wF) (yj_bi call_len oLen_ok T.n_len (yaj_cons (yj_prop (L := LP_doors) (fun C m h => ⟨(cP_doors C m h).1, (cP_doors C m h).2.mono (by decide)⟩) hr (yj_var 0)) yaj_nil) (by decide +kernel)))) (blkOk_by (N := N_first_fault) (sc := defScope (top 64)) (by decide +kernel)) (by decide) (fun _ _ _ _ _ => (gj_nm 12 S_first_fault.nd)) (fun _ _ _ _ _ => tsj_nil) (fun _ _ _ _ _ => (dnE (W := wF) (yj_call takesF (c_asked_at.mono (by decide)) hr (yaj_cons (yj_var 0) (yaj_cons (yj_var 12) yaj_nil)))))))
    (yss_cons (ys_for (passes_of rfl) rfl (vj_rg1 T.n_range (dnE (W := wF) (yj_bi call_len oLen_ok T.n_len (yaj_cons (yj_var 3) yaj_nil) (by decide +kernel)))) (gj_nm 9 S_first_fault.nd) (yss_cons (ys_asg (yj_item (yj_var 3) (yj_var 9)) (gj_tp rfl (gjs_cons (gj_nm 10 S_first_fault.nd) (gjs_cons (gj_nm 11 S_first_fault.nd) (gjs_cons (gj_nm 12 S_first_fault.nd) gjs_nil))) (lCons_len (lCons_len (lCons_len lNil_len)))))
    (yss_cons (ys_if (zj_w (wz_and (zj_cmp op_gt qGt (yj_var 9) (yj_c ej_int)) (wz_1 (zj_cmp op_lt qLt (yj_call (takes_of rfl rfl rfl rfl) (c_order_of.mono (by decide)) hr (yaj_cons (yj_item (yj_var 4) (yj_var 9)) (yaj_cons (yj_item (yj_var 4) (yj_sub (yj_var 9) (yj_c ej_int))) yaj_nil))) (yj_c ej_int)) (.inl rfl)))) yss_never yss_nil)
    (yss_cons (ys_if (zj_w (wz_and (zj_cmp op_gt qGt (yj_var 9) (yj_c ej_int)) (wz_and (zj_cmp (op_inP (hu200 hr.r)) oIn_ok (yj_var 12) (yj_var 1)) (wz_1 (zj_cmp op_lt qLt (yj_var 10) (yj_item (yj_var 5) (yj_sub (yj_var 9) (yj_c ej_int)))) (.inl rfl))))) yss_never yss_nil)
    (yss_cons (ys_set (i := 13) S_first_fault.nd (yj_if (zj_cmp (op_inP (hu200 hr.r)) oIn_ok (yj_var 12) (yj_var 1)) (yj_ty call_tuple_of oTupleOf_ok T.n_tuple (yaj_cons (upLc (ej_lc (own := [("count", 14)]) rfl S_first_fault.nd (ij_seq (dnE (W := wF) (yj_item (yj_var 7) (yj_var 9)))) (blkOk_by (N := N_first_fault) (sc := defScope (top 64)) (by decide +kernel)) (by decide) (fun _ _ _ _ _ => (gj_nm 14 S_first_fault.nd)) (fun _ _ _ _ _ => tsj_nil) (fun _ _ _ _ _ => (dnE (W := wF) (yj_tup (yaj_cons (yj_var 14) (yaj_cons (yj_var 2) yaj_nil))))))) yaj_nil) (by decide +kernel)) (yj_item (yj_var 6) (yj_var 9))))
    (yss_one (ys_if (zj_not (zj_tru (yj_call (takes_of rfl rfl rfl rfl) (c_do_keep_asked.mono (by decide)) hr (yaj_cons (yj_item (yj_var 8) (yj_var 12)) (yaj_cons (yj_var 13) yaj_nil))))) (yss_one (ys_ret (yj_add (yj_tup (yaj_cons (yj_var 9) yaj_nil)) (yj_call (takes_of rfl rfl rfl rfl) (c_first_missed.mono (by decide)) hr (yaj_cons (yj_var 0) (yaj_cons (yj_var 12) (yaj_cons (yj_var 13) yaj_nil))))))) yss_nil)))))))
    (yss_one (ys_ret (yj_c ej_non)))))))))
abbrev N_true_run : List Str := ["machine", "own", "k", "most", "run", "fault", "times", "waits", "now", "ahead", "tick", "lag", "door"]
theorem S_true_run : FnScope ["machine", "own", "k", "most", "run", "fault", "times", "waits", "now", "ahead", "tick", "lag", "door"] ["machine", "own", "k", "most", "run"] (defScope (top 67)) := ⟨rfl, rfl, rfl, by decide +kernel, rfl, by decide +kernel, by decide +kernel⟩
theorem c_true_run (T : Txt K mg) (hf : mg "true_run" = some (.ref (He.ga K "true_run"))) (F : FnP K "true_run" 67) (c_check_ticking : CalY P w K mg base 6 "check_ticking" 5 m_check_ticking) (c_difference_of : CalY P w K mg base 2 "difference_of" 2 m_difference_of) (c_door_moments : CalY P w K mg base 3 "door_moments" 2 m_door_moments) (c_first_fault : CalY P w K mg base 7 "first_fault" 4 m_first_fault) : CalY P w K mg base 8 "true_run" 5 m_true_run := by
  obtain ⟨fd, F⟩ := F
  refine calY_ok false (k := 7) hf F S_true_run (fun _ _ _ _ _ _ us hl => match us, hl with | [_, _, _, _, _], _ => rfl) (fun cdv A outer s H E hr => ?_)
  exact (yss_cons (ys_expr (yj_call (takes_of rfl rfl rfl rfl) (c_check_ticking.mono (by decide)) hr (yaj_cons (yj_var 0) (yaj_cons (yj_var 1) (yaj_cons (yj_var 2) (yaj_cons (yj_var 3) (yaj_cons (yj_var 4) yaj_nil)))))))
    (yss_cons (ys_set (i := 5) S_true_run.nd (yj_call (takes_of rfl rfl rfl rfl) (c_first_fault.mono (by decide)) hr (yaj_cons (yj_var 0) (yaj_cons (yj_var 1) (yaj_cons (yj_var 2) (yaj_cons (yj_var 4) yaj_nil))))))
    (yss_cons (ys_if (zj_cmp op_notN oIsNot_ok (yj_var 5) (yj_c ej_non)) (yss_one (ys_raise_low rfl (takes_of rfl rfl rfl rfl) lowB_A fld_reason T.low_Refused hr.r (yj_var 5))) yss_nil)
    (yss_cons (ys_set (i := 6) S_true_run.nd (yj_call (takes_of rfl rfl rfl rfl) (c_door_moments.mono (by decide)) hr (yaj_cons (yj_var 2) (yaj_cons (yj_var 4) yaj_nil))))
    (yss_cons (upSLc (sj_setLc (i := 7) (own := [("now", 8), ("ahead", 9)]) rfl S_true_run.nd (ij_zipW T.n_zip (dnE (W := wF) (yj_var 6)) (dnE (W := wF) (yj_add (yj_lst (yaj_cons (yj_c (ej_gtup T.t_ZERO.1 T.t_ZERO.2)) yaj_nil)) (yj_var 6)))) (blkOk_by (N := N_true_run) (sc := defScope (top 67)) (by decide +kernel)) (by decide) (fun _ _ _ _ _ => (gj_tp rfl (gjs_cons (gj_nm 8 S_true_run.nd) (gjs_cons (gj_nm 9 S_true_run.nd) gjs_nil)) (lCons_len (lCons_len lNil_len)))) (fun _ _ _ _ _ => tsj_nil) (fun _ _ _ _ _ => (dnE (W := wF) (yj_call takesF (c_difference_of.mono (by decide)) hr (yaj_cons (yj_var 8) (yaj_cons (yj_var 9) yaj_nil)))))))
    (yss_one (ys_ret (upE (ej_tupZip rfl T.n_tuple T.n_zip (dnE (W := wF) (yj_var 7)) (dnE (W := wF) (upLc (ej_lc (own := [("tick", 10), ("lag", 11), ("door", 12)]) rfl S_true_run.nd (ij_seq (dnE (W := wF) (yj_var 4))) (blkOk_by (N := N_true_run) (sc := defScope (top 67)) (by decide +kernel)) (by decide) (fun _ _ _ _ _ => (gj_tp rfl (gjs_cons (gj_nm 10 S_true_run.nd) (gjs_cons (gj_nm 11 S_true_run.nd) (gjs_cons (gj_nm 12 S_true_run.nd) gjs_nil))) (lCons_len (lCons_len (lCons_len lNil_len))))) (fun _ _ _ _ _ => tsj_nil) (fun _ _ _ _ _ => (dnE (W := wF) (yj_var 12)))))))))))))))
abbrev N_is_ticking : List Str := ["machine", "own", "k", "most", "value"]
theorem S_is_ticking : FnScope ["machine", "own", "k", "most", "value"] ["machine", "own", "k", "most", "value"] (defScope (top 51)) := ⟨rfl, rfl, rfl, by decide +kernel, rfl, by decide +kernel, by decide +kernel⟩
theorem c_is_ticking (T : Txt K mg) (hf : mg "is_ticking" = some (.ref (He.ga K "is_ticking"))) (F : FnP K "is_ticking" 51) (c_check_program : CalY P w K mg base 5 "check_program" 4 m_check_program) (c_has_ticking_form : CalY P w K mg base 4 "has_ticking_form" 5 m_has_ticking_form) : CalY P w K mg base 6 "is_ticking" 5 m_is_ticking := by
  obtain ⟨fd, F⟩ := F
  refine calY_ok false (k := 5) hf F S_is_ticking (fun _ _ _ _ _ _ us hl => match us, hl with | [_, _, _, _, _], _ => rfl) (fun cdv A outer s H E hr => ?_)
  exact (yss_cons (ys_expr (yj_call (takes_of rfl rfl rfl rfl) (c_check_program.mono (by decide)) hr (yaj_cons (yj_var 0) (yaj_cons (yj_var 1) (yaj_cons (yj_var 2) (yaj_cons (yj_var 3) yaj_nil))))))
    (yss_one (ys_ret (yj_call (takes_of rfl rfl rfl rfl) (c_has_ticking_form.mono (by decide)) hr (yaj_cons (yj_var 0) (yaj_cons (yj_var 1) (yaj_cons (yj_var 2) (yaj_cons (yj_var 3) (yaj_cons (yj_var 4) yaj_nil)))))))))
abbrev N_ticks_for : List Str := ["m", "most", "left"]
theorem S_ticks_for : FnScope ["m", "most", "left"] ["m", "most"] (defScope (top 68)) := ⟨rfl, rfl, rfl, by decide +kernel, rfl, by decide +kernel, by decide +kernel⟩
theorem c_ticks_for (T : Txt K mg) (hf : mg "ticks_for" = some (.ref (He.ga K "ticks_for"))) (F : FnP K "ticks_for" 68) (c_check_margin : CalY P w K mg base 4 "check_margin" 1 m_check_margin) (c_check_number : CalY P w K mg base 3 "check_number" 3 m_check_number) : CalY P w K mg base 5 "ticks_for" 2 m_ticks_for := by
  obtain ⟨fd, F⟩ := F
  refine calY_ok false (k := 4) hf F S_ticks_for (fun _ _ _ _ _ _ us hl => match us, hl with | [_, _], _ => rfl) (fun cdv A outer s H E hr => ?_)
  exact (yss_cons (ys_expr (yj_call (takes_of rfl rfl rfl rfl) (c_check_number.mono (by decide)) hr (yaj_cons (yj_var 0) (yaj_cons (yj_c ej_int) (yaj_cons (yj_c (ej_gint T.i_MOST_M)) yaj_nil)))))
    (yss_cons (ys_expr (yj_call (takes_of rfl rfl rfl rfl) (c_check_margin.mono (by decide)) hr (yaj_cons (yj_var 1) yaj_nil)))
    yss_never))
abbrev N__law_right : List Str := ["dice", "real", "none", "own", "k", "most", "some", "run", "told", "due", "calls", "call", "word", "m"]
theorem S__law_right : FnScope ["dice", "real", "none", "own", "k", "most", "some", "run", "told", "due", "calls", "call", "word", "m"] ["dice"] (defScope (top 74)) := ⟨rfl, rfl, rfl, by decide +kernel, rfl, by decide +kernel, by decide +kernel⟩
theorem tabIn__law_right (K : PySem.W.Frag) : ((He.cT K ("_law_right", none)).2, (("_law_right" : Str) ++ ".<locals>.") ++ "<lambda>") ∈ LawTabs.T K := List.mem_cons_self
theorem lam__law_right__law_met {cdv : Value} {A : Around} {outer : List Env} {s : Shared} {H : Hp} {E : XK} (T : Txt K mg) (TB : TabB base mg (He.cT K ("_law_right", none)).1 (He.cT K ("_law_right", none)).2) (hcode : cdv = .ref (He.cT K ("_law_right", none)).1) {params : Arguments} {body : Expr} {scope : Scope} {p lpos pos : Pos} {b : EX}
    (hr : RoomG 11 (cxOf (L2.CX P w) P w K mg base N__law_right "_law_right" (defScope (top 74)) (He.ga K "_law_right") cdv A outer s H E).A) (L : LamS (defScope (top 74)) scope) (hdef : defaultsOf params (cxOf (L2.CX P w) P w K mg base N__law_right "_law_right" (defScope (top 74)) (He.ga K "_law_right") cdv A outer s H E).env = ([], []))
    (hbind : ∀ (q : Str) (cl : List (Str × Addr)) (pm cv ctv : Value), bindArgs (PySem.W.kla_fn "<lambda>" q params body scope cl pm cv ctv) ⟨[], []⟩ = pure [])
    (hbody : ∀ (A' : Around) (outer' : List Env) (s' : Shared) (H' : Hp) (E' : XK) (f c' : Addr), RoomG 9 (A'.deeper (lamEnv (cxOf (L2.CX P w) P w K mg base N__law_right "_law_right" (defScope (top 74)) (He.ga K "_law_right") cdv A outer s H E) scope s'.heap.objs.size f c')) → PE (lamCx (cxOf (L2.CX P w) P w K mg base N__law_right "_law_right" (defScope (top 74)) (He.ga K "_law_right") cdv A outer s H E) A' outer' s' H' E' scope f c') body (tX K (wf E') b)) :
    PE (cxOf (L2.CX P w) P w K mg base N__law_right "_law_right" (defScope (top 74)) (He.ga K "_law_right") cdv A outer s H E) (.Call (.Name "_law_met" p) [.Lambda params body scope lpos] [] pos) (tX K (wf E) (xMet CLs h__law_met fine__law_met b)) := by
  obtain ⟨cdvm, M⟩ := T.M__law_met
  exact yj_met (k := 9) (X := cxOf (L2.CX P w) P w K mg base N__law_right "_law_right" (defScope (top 74)) (He.ga K "_law_right") cdv A outer s H E) (CL := CLs) M rfl (.inl rfl) (met__law_met T hr) (fun y hy h hh => T.exm y hy _ (HC__law_met h hh)) TB hcode (tabIn__law_right K) (fun p hp e => T.tabU p hp _ (tabIn__law_right K) e) (hr.mono (by decide)) L hdef hbind hbody
theorem c__law_right (T : Txt K mg) (hf : mg "_law_right" = some (.ref (He.ga K "_law_right"))) (F : FnP K "_law_right" 74) (TB : TabB base mg (He.cT K ("_law_right", none)).1 (He.cT K ("_law_right", none)).2) (c_Machine : CalK P w K mg base 7 "Machine" 4 m_Machine) (c__law_pick : CalY P w K mg base 2 "_law_pick" 2 m__law_pick) (c_ticks_for : CalY P w K mg base 5 "ticks_for" 2 m_ticks_for) (c_true_run : CalY P w K mg base 8 "true_run" 5 m_true_run) (c_counters : CalY P w K mg base 7 "counters" 5 m_counters) (c_is_ticking : CalY P w K mg base 6 "is_ticking" 5 m_is_ticking) (c_moments : CalY P w K mg base 7 "moments" 5 m_moments) (c_noticed : CalY P w K mg base 7 "noticed" 5 m_noticed) (c_ticking_fault : CalY P w K mg base 7 "ticking_fault" 5 m_ticking_fault) : CalY P w K mg base 12 "_law_right" 1 m__law_right := by
  obtain ⟨fd, F⟩ := F
  have cV__law_right : ∀ y n m, L__law_right y = some (n, m) → CalY P w K mg base 9 y n m := by
    intro y n m h
    unfold L__law_right at h
    by_cases e_counters : y = "counters"
    · subst e_counters; rw [if_pos rfl] at h; cases h; exact c_counters.mono (by decide)
    rw [if_neg e_counters] at h
    by_cases e_is_ticking : y = "is_ticking"
    · subst e_is_ticking; rw [if_pos rfl] at h; cases h; exact c_is_ticking.mono (by decide)
    rw [if_neg e_is_ticking] at h
    by_cases e_moments : y = "moments"
    · subst e_moments; rw [if_pos rfl] at h; cases h; exact c_moments.mono (by decide)
    rw [if_neg e_moments] at h
    by_cases e_noticed : y = "noticed"
    · subst e_noticed; rw [if_pos rfl] at h; cases h; exact c_noticed.mono (by decide)
    rw [if_neg e_noticed] at h
    by_cases e_ticking_fault : y = "ticking_fault"
    · subst e_ticking_fault; rw [if_pos rfl] at h; cases h; exact c_ticking_fault.mono (by decide)
    rw [if_neg e_ticking_fault] at h
    by_cases e_true_run : y = "true_run"
    · subst e_true_run; rw [if_pos rfl] at h; cases h; exact c_true_run.mono (by decide)
    rw [if_neg e_true_run] at h
    cases h
  refine calY_okL false (k := 11) hf F S__law_right (fun _ _ _ _ _ _ us hl => match us, hl with | [_], _ => rfl) (fun cdv A outer s H E hcode hr => ?_)
  exact (yss_cons (ys_set (i := 1) S__law_right.nd (yj_make (takes_of rfl rfl rfl rfl) (c_Machine.mono (by decide)) hr (yaj_cons (yj_c ej_int) (yaj_cons (yj_tup (yaj_cons (yj_tup (yaj_cons (yj_c ej_int) yaj_nil)) (yaj_cons (yj_tup (yaj_cons (yj_c ej_int) yaj_nil)) yaj_nil))) (yaj_cons (yj_tup (yaj_cons (yj_tup (yaj_cons (yj_c ej_int) (yaj_cons (yj_tup (yaj_cons (yj_tup (yaj_cons (yj_c ej_int) (yaj_cons (yj_c ej_int) yaj_nil))) yaj_nil)) (yaj_cons (yj_tup (yaj_cons (yj_c ej_int) yaj_nil)) (yaj_cons (yj_c ej_int) yaj_nil))))) (yaj_cons (yj_tup (yaj_cons (yj_c ej_int) (yaj_cons (yj_tup (yaj_cons (yj_tup (yaj_cons (yj_c ej_int) (yaj_cons (yj_c ej_int) yaj_nil))) yaj_nil)) (yaj_cons (yj_tup yaj_nil) (yaj_cons (yj_c ej_int) yaj_nil))))) yaj_nil))) yaj_nil)))))
    (yss_cons (ys_set (i := 2) S__law_right.nd (yj_call (takes_of rfl rfl rfl rfl) (c__law_pick.mono (by decide)) hr (yaj_cons (yj_var 0) (yaj_cons (yj_lst (yaj_cons (yj_c ej_non) (yaj_cons (yj_c ej_int) (yaj_cons (yj_tup yaj_nil) (yaj_cons (yj_c ej_str) (yaj_cons (yj_c ej_dict0) (yaj_cons (yj_tup (yaj_cons (yj_c ej_int) (yaj_cons (yj_tup (yaj_cons (yj_tup (yaj_cons (yj_c ej_int) yaj_nil)) yaj_nil)) (yaj_cons (yj_tup yaj_nil) yaj_nil)))) (yaj_cons (yj_lst (yaj_cons (yj_var 1) yaj_nil)) (yaj_cons (yj_c ej_bl) yaj_nil))))))))) yaj_nil))))
    (yss_cons (ys_set (i := 3) S__law_right.nd (yj_call (takes_of rfl rfl rfl rfl) (c__law_pick.mono (by decide)) hr (yaj_cons (yj_var 0) (yaj_cons (yj_lst (yaj_cons (yj_c ej_non) (yaj_cons (yj_c ej_int) (yaj_cons (yj_lst (yaj_cons (yj_c ej_int) yaj_nil)) (yaj_cons (yj_tup (yaj_cons (yj_c ej_int) yaj_nil)) (yaj_cons (yj_tup (yaj_cons (yj_neg (yj_c ej_int)) yaj_nil)) (yaj_cons (yj_tup (yaj_cons (yj_c ej_int) (yaj_cons (yj_c ej_int) yaj_nil))) (yaj_cons (yj_tup (yaj_cons (yj_c ej_int) (yaj_cons (yj_c ej_int) yaj_nil))) (yaj_cons (yj_tup (yaj_cons (yj_c ej_bl) yaj_nil)) (yaj_cons (yj_tup (yaj_cons (yj_c ej_str) yaj_nil)) (yaj_cons (yj_c ej_dict0) yaj_nil))))))))))) yaj_nil))))
    (yss_cons (ys_set (i := 4) S__law_right.nd (yj_call (takes_of rfl rfl rfl rfl) (c__law_pick.mono (by decide)) hr (yaj_cons (yj_var 0) (yaj_cons (yj_lst (yaj_cons (yj_c ej_non) (yaj_cons (yj_c ej_int) (yaj_cons (yj_neg (yj_c ej_int)) (yaj_cons (yj_c ej_bl) (yaj_cons (yj_c ej_str) (yaj_cons (yj_tup (yaj_cons (yj_c ej_int) yaj_nil)) (yaj_cons (yj_tup (yaj_cons (yj_c ej_int) (yaj_cons (yj_c ej_int) yaj_nil))) (yaj_cons (yj_pow (yj_c ej_int) (yj_c ej_int)) yaj_nil))))))))) yaj_nil))))
    (yss_cons (ys_set (i := 5) S__law_right.nd (yj_call (takes_of rfl rfl rfl rfl) (c__law_pick.mono (by decide)) hr (yaj_cons (yj_var 0) (yaj_cons (yj_lst (yaj_cons (yj_c ej_non) (yaj_cons (yj_c ej_int) (yaj_cons (yj_c ej_int) (yaj_cons (yj_tup (yaj_cons (yj_c ej_int) yaj_nil)) (yaj_cons (yj_tup (yaj_cons (yj_c ej_int) (yaj_cons (yj_c ej_int) yaj_nil))) (yaj_cons (yj_tup (yaj_cons (yj_neg (yj_c ej_int)) (yaj_cons (yj_c ej_int) yaj_nil))) (yaj_cons (yj_tup (yaj_cons (yj_c ej_int) (yaj_cons (yj_c ej_int) yaj_nil))) (yaj_cons (yj_tup (yaj_cons (yj_c ej_int) (yaj_cons (yj_neg (yj_c ej_int)) yaj_nil))) (yaj_cons (yj_lst (yaj_cons (yj_c ej_int) (yaj_cons (yj_c ej_int) yaj_nil))) (yaj_cons (yj_tup (yaj_cons (yj_c ej_bl) (yaj_cons (yj_c ej_int) yaj_nil))) (yaj_cons (yj_c ej_str) (yaj_cons (yj_tup (yaj_cons (yj_c ej_int) (yaj_cons (yj_c ej_int) yaj_nil))) yaj_nil))))))))))))) yaj_nil))))
    (yss_cons (ys_set (i := 6) S__law_right.nd (yj_lst (yaj_cons (yj_c ej_non) (yaj_cons (yj_c ej_int) (yaj_cons (yj_lst yaj_nil) (yaj_cons (yj_tup (yaj_cons (yj_tup (yaj_cons (yj_c ej_int) (yaj_cons (yj_tup (yaj_cons (yj_c ej_int) (yaj_cons (yj_c ej_int) yaj_nil))) yaj_nil))) yaj_nil)) (yaj_cons (yj_tup (yaj_cons (yj_tup (yaj_cons (yj_c ej_int) (yaj_cons (yj_tup (yaj_cons (yj_c ej_int) (yaj_cons (yj_c ej_int) yaj_nil))) (yaj_cons (yj_c ej_int) yaj_nil)))) yaj_nil)) (yaj_cons (yj_tup (yaj_cons (yj_tup (yaj_cons (yj_c ej_int) (yaj_cons (yj_tup (yaj_cons (yj_c ej_int) (yaj_cons (yj_c ej_int) yaj_nil))) (yaj_cons (yj_c ej_int) yaj_nil)))) yaj_nil)) (yaj_cons (yj_tup (yaj_cons (yj_tup (yaj_cons (yj_neg (yj_c ej_int)) (yaj_cons (yj_tup (yaj_cons (yj_c ej_int) (yaj_cons (yj_c ej_int) yaj_nil))) (yaj_cons (yj_c ej_int) yaj_nil)))) yaj_nil)) (yaj_cons (yj_tup (yaj_cons (yj_tup (yaj_cons (yj_c ej_int) (yaj_cons (yj_tup (yaj_cons (yj_c ej_int) (yaj_cons (yj_c ej_int) yaj_nil))) (yaj_cons (yj_c ej_int) yaj_nil)))) yaj_nil)) (yaj_cons (yj_tup (yaj_cons (yj_tup (yaj_cons (yj_c ej_int) (yaj_cons (yj_tup (yaj_cons (yj_c ej_int) (yaj_cons (yj_c ej_int) yaj_nil))) (yaj_cons (yj_c ej_int) yaj_nil)))) yaj_nil)) yaj_nil)))))))))))
    (yss_cons (ys_set (i := 7) S__law_right.nd (yj_call (takes_of rfl rfl rfl rfl) (c__law_pick.mono (by decide)) hr (yaj_cons (yj_var 0) (yaj_cons (yj_add (yj_var 6) (yj_lst (yaj_cons (yj_tup (yaj_cons (yj_tup (yaj_cons (yj_c ej_int) (yaj_cons (yj_c ej_int) (yaj_cons (yj_c ej_int) yaj_nil)))) yaj_nil)) (yaj_cons (yj_tup (yaj_cons (yj_tup (yaj_cons (yj_c ej_int) (yaj_cons (yj_tup (yaj_cons (yj_c ej_int) (yaj_cons (yj_c ej_int) yaj_nil))) (yaj_cons (yj_c ej_int) yaj_nil)))) (yaj_cons (yj_tup (yaj_cons (yj_c ej_int) (yaj_cons (yj_tup (yaj_cons (yj_c ej_int) (yaj_cons (yj_c ej_int) yaj_nil))) (yaj_cons (yj_c ej_int) yaj_nil)))) yaj_nil))) (yaj_cons (yj_tup (yaj_cons (yj_tup (yaj_cons (yj_c ej_bl) (yaj_cons (yj_tup (yaj_cons (yj_c ej_int) (yaj_cons (yj_c ej_int) yaj_nil))) (yaj_cons (yj_c ej_int) yaj_nil)))) yaj_nil)) (yaj_cons (yj_c ej_dict0) (yaj_cons (yj_tup (yaj_cons (yj_tup (yaj_cons (yj_c ej_int) (yaj_cons (yj_tup (yaj_cons (yj_c ej_int) (yaj_cons (yj_c ej_int) yaj_nil))) (yaj_cons (yj_c ej_int) yaj_nil)))) (yaj_cons (yj_tup (yaj_cons (yj_c ej_int) (yaj_cons (yj_tup (yaj_cons (yj_c ej_int) (yaj_cons (yj_c ej_int) yaj_nil))) (yaj_cons (yj_c ej_int) yaj_nil)))) yaj_nil))) yaj_nil))))))) yaj_nil))))
    (yss_cons (ys_par (i := 8) (j := 9) rfl S__law_right.nd (by decide) (yaj_cons (yj_lstC yaj_nil) (yaj_cons (yj_lst yaj_nil) yaj_nil)))
    (yss_cons (ys_set (i := 10) S__law_right.nd (yj_lst (yaj_cons (yj_tup (yaj_cons (yj_fn T.f_moments) (yaj_cons (yj_c ej_str) yaj_nil))) (yaj_cons (yj_tup (yaj_cons (yj_fn T.f_noticed) (yaj_cons (yj_c ej_str) yaj_nil))) (yaj_cons (yj_tup (yaj_cons (yj_fn T.f_counters) (yaj_cons (yj_c ej_str) yaj_nil))) (yaj_cons (yj_tup (yaj_cons (yj_fn T.f_ticking_fault) (yaj_cons (yj_c ej_str) yaj_nil))) (yaj_cons (yj_tup (yaj_cons (yj_fn T.f_true_run) (yaj_cons (yj_c ej_str) yaj_nil))) yaj_nil)))))))
    (yss_cons (ys_for (passes_of rfl) rfl (ij_seq (dnE (W := wF) (yj_add (yj_var 10) (yj_lst (yaj_cons (yj_tup (yaj_cons (yj_fn T.f_is_ticking) (yaj_cons (yj_c ej_str) yaj_nil))) yaj_nil))))) (gj_tp rfl (gjs_cons (gj_nm 11 S__law_right.nd) (gjs_cons (gj_nm 12 S__law_right.nd) gjs_nil)) (lCons_len (lCons_len lNil_len))) (yss_cons (ys_app (yj_var 8) (lam__law_right__law_met T TB hcode (hr.mono (by decide)) (lamS_by (by decide +kernel)) rfl (fun _ _ _ _ _ => rfl) (fun _ _ _ _ _ _ _ hr2 => (yj_callV (L := L__law_right) (takes_of rfl rfl rfl rfl) (fun y n m h => cV__law_right y n m h) hr2 (yaj_cons (yj_var 2) (yaj_cons (yj_var 3) (yaj_cons (yj_var 4) (yaj_cons (yj_var 5) (yaj_cons (yj_var 7) yaj_nil)))))))))
    (yss_cons (ys_app (yj_var 8) (lam__law_right__law_met T TB hcode (hr.mono (by decide)) (lamS_by (by decide +kernel)) rfl (fun _ _ _ _ _ => rfl) (fun _ _ _ _ _ _ _ hr2 => (yj_callV (L := L__law_right) (takes_of rfl rfl rfl rfl) (fun y n m h => cV__law_right y n m h) hr2 (yaj_cons (yj_var 1) (yaj_cons (yj_var 3) (yaj_cons (yj_var 4) (yaj_cons (yj_var 5) (yaj_cons (yj_var 7) yaj_nil)))))))))
    (yss_cons (ys_app (yj_var 8) (lam__law_right__law_met T TB hcode (hr.mono (by decide)) (lamS_by (by decide +kernel)) rfl (fun _ _ _ _ _ => rfl) (fun _ _ _ _ _ _ _ hr2 => (yj_callV (L := L__law_right) (takes_of rfl rfl rfl rfl) (fun y n m h => cV__law_right y n m h) hr2 (yaj_cons (yj_var 1) (yaj_cons (yj_tup (yaj_cons (yj_c ej_int) yaj_nil)) (yaj_cons (yj_var 4) (yaj_cons (yj_var 5) (yaj_cons (yj_var 7) yaj_nil)))))))))
    (yss_cons (ys_app (yj_var 8) (lam__law_right__law_met T TB hcode (hr.mono (by decide)) (lamS_by (by decide +kernel)) rfl (fun _ _ _ _ _ => rfl) (fun _ _ _ _ _ _ _ hr2 => (yj_callV (L := L__law_right) (takes_of rfl rfl rfl rfl) (fun y n m h => cV__law_right y n m h) hr2 (yaj_cons (yj_var 1) (yaj_cons (yj_tup (yaj_cons (yj_c ej_int) yaj_nil)) (yaj_cons (yj_c ej_int) (yaj_cons (yj_var 5) (yaj_cons (yj_var 7) yaj_nil)))))))))
    (yss_cons (ys_app (yj_var 8) (lam__law_right__law_met T TB hcode (hr.mono (by decide)) (lamS_by (by decide +kernel)) rfl (fun _ _ _ _ _ => rfl) (fun _ _ _ _ _ _ _ hr2 => (yj_callV (L := L__law_right) (takes_of rfl rfl rfl rfl) (fun y n m h => cV__law_right y n m h) hr2 (yaj_cons (yj_var 1) (yaj_cons (yj_tup (yaj_cons (yj_c ej_int) yaj_nil)) (yaj_cons (yj_c ej_int) (yaj_cons (yj_tup (yaj_cons (yj_c ej_int) (yaj_cons (yj_c ej_int) yaj_nil))) (yaj_cons (yj_var 7) yaj_nil)))))))))
    (yss_one (ys_set (i := 9) S__law_right.nd (yj_add (yj_var 9) (yj_lst (yaj_cons (yj_c ej_str) (yaj_cons (yj_c ej_str) (yaj_cons (yj_cat (yj_c ej_str) (yj_bi (call_reprD hr.gd (hu200 hr.r)) oReprD_ok T.n_repr (yaj_cons (yj_var 4) yaj_nil) (by decide +kernel))) (yaj_cons (yj_c ej_str) (yaj_cons (yj_var 12) yaj_nil)))))))))))))))
    (yss_cons (ys_set (i := 13) S__law_right.nd (yj_call (takes_of rfl rfl rfl rfl) (c__law_pick.mono (by decide)) hr (yaj_cons (yj_var 0) (yaj_cons (yj_lst (yaj_cons (yj_c ej_non) (yaj_cons (yj_c ej_int) (yaj_cons (yj_c ej_int) (yaj_cons (yj_neg (yj_c ej_int)) (yaj_cons (yj_c ej_bl) (yaj_cons (yj_c ej_str) (yaj_cons (yj_tup (yaj_cons (yj_c ej_int) yaj_nil)) yaj_nil)))))))) yaj_nil))))
    (yss_cons (ys_app (yj_var 8) (lam__law_right__law_met T TB hcode (hr.mono (by decide)) (lamS_by (by decide +kernel)) rfl (fun _ _ _ _ _ => rfl) (fun _ _ _ _ _ _ _ hr2 => (yj_call (takes_of rfl rfl rfl rfl) (c_true_run.mono (by decide)) hr2 (yaj_cons (yj_var 1) (yaj_cons (yj_tup (yaj_cons (yj_c ej_int) yaj_nil)) (yaj_cons (yj_c ej_int) (yaj_cons (yj_tup (yaj_cons (yj_c ej_int) (yaj_cons (yj_c ej_int) yaj_nil))) (yaj_cons (yj_tup (yaj_cons (yj_tup (yaj_cons (yj_c ej_int) (yaj_cons (yj_tup (yaj_cons (yj_c ej_int) (yaj_cons (yj_c ej_int) yaj_nil))) (yaj_cons (yj_c ej_int) yaj_nil)))) yaj_nil)) yaj_nil)))))))))
    (yss_cons (ys_app (yj_var 8) (lam__law_right__law_met T TB hcode (hr.mono (by decide)) (lamS_by (by decide +kernel)) rfl (fun _ _ _ _ _ => rfl) (fun _ _ _ _ _ _ _ hr2 => (yj_call (takes_of rfl rfl rfl rfl) (c_ticks_for.mono (by decide)) hr2 (yaj_cons (yj_var 13) (yaj_cons (yj_var 5) yaj_nil))))))
    (yss_cons (ys_app (yj_var 8) (lam__law_right__law_met T TB hcode (hr.mono (by decide)) (lamS_by (by decide +kernel)) rfl (fun _ _ _ _ _ => rfl) (fun _ _ _ _ _ _ _ hr2 => (yj_call (takes_of rfl rfl rfl rfl) (c_ticks_for.mono (by decide)) hr2 (yaj_cons (yj_c ej_int) (yaj_cons (yj_var 5) yaj_nil))))))
    (yss_one (ys_ret (yj_cmp (op_eqP (hu200 hr.r)) oEq_ok (yj_var 8) (yj_add (yj_var 9) (yj_lst (yaj_cons (yj_c ej_str) (yaj_cons (yj_cat (yj_c ej_str) (yj_bi (call_reprD hr.gd (hu200 hr.r)) oReprD_ok T.n_repr (yaj_cons (yj_var 13) yaj_nil) (by decide +kernel))) (yaj_cons (yj_c ej_str) yaj_nil))))))))))))))))))))))
abbrev N__law_dice : List Str := ["script", "spot", "cell", "left"]
theorem S__law_dice : FnScope ["script", "spot", "cell", "left"] ["script", "spot"] (defScope (top 70)) := ⟨rfl, rfl, rfl, by decide +kernel, rfl, by decide +kernel, by decide +kernel⟩
theorem c__law_dice (T : Txt K mg) (hf : mg "_law_dice" = some (.ref (He.ga K "_law_dice"))) (F : FnP K "_law_dice" 70)  : CalY P w K mg base 1 "_law_dice" 2 m__law_dice := by
  obtain ⟨fd, F⟩ := F
  refine calY_ok true (k := 0) hf F S__law_dice (fun _ _ _ _ _ _ us hl => match us, hl with | [_, _], _ => rfl) (fun cdv A outer s H E hr => ?_)
  exact (yss_cons (ys_set (i := 2) S__law_dice.nd (yj_if (zj_cmp op_lt qLt (yj_var 1) (yj_bi call_len oLen_ok T.n_len (yaj_cons (yj_var 0) yaj_nil) (by decide +kernel))) (yj_ty call_int1 oInt_ok T.n_int (yaj_cons (yj_item (yj_var 0) (yj_var 1)) yaj_nil) (by decide +kernel)) (yj_add (yj_mul (yj_c ej_int) (yj_var 1)) (yj_c ej_int))))
    (yss_cons (ys_set (i := 3) S__law_dice.nd (yj_mod (yj_bi (call_max2 rfl) oMax2_ok T.n_max (yaj_cons (yj_c ej_int) (yaj_cons (yj_sub (yj_bi call_abs oAbs_ok T.n_abs (yaj_cons (yj_var 2) yaj_nil) (by decide +kernel)) (yj_pow (yj_c ej_int) (yj_c ej_int))) yaj_nil)) (by decide +kernel)) (yj_mul (yj_pow (yj_c ej_int) (yj_c ej_int)) (yj_pow (yj_c ej_int) (yj_c ej_int)))))
    (yss_one (ys_ret (yj_lstC (yaj_cons (yj_var 3) (yaj_cons (yj_add (yj_add (yj_add (yj_mul (yj_mod (yj_bi call_abs oAbs_ok T.n_abs (yaj_cons (yj_var 2) yaj_nil) (by decide +kernel)) (yj_c ej_int)) (yj_c ej_int)) (yj_mul (yj_c ej_int) (yj_var 1))) (yj_mul (yj_c ej_int) (yj_ty call_int1 oInt_ok T.n_int (yaj_cons (yj_cmp op_lt qLt (yj_var 2) (yj_c ej_int)) yaj_nil) (by decide +kernel)))) (yj_c ej_int)) (yaj_cons (yj_c ej_int) yaj_nil))))))))
abbrev N_law : List Str := ["script", "spot", "real", "told"]
theorem S_law : FnScope ["script", "spot", "real", "told"] ["script"] (defScope (top 75)) := ⟨rfl, rfl, rfl, by decide +kernel, rfl, by decide +kernel, by decide +kernel⟩
theorem tabIn_law (K : PySem.W.Frag) : ((He.cT K ("law", none)).2, (("law" : Str) ++ ".<locals>.") ++ "<lambda>") ∈ LawTabs.T K := (List.mem_cons_of_mem _ List.mem_cons_self)
theorem lam_law__law_met {cdv : Value} {A : Around} {outer : List Env} {s : Shared} {H : Hp} {E : XK} (T : Txt K mg) (TB : TabB base mg (He.cT K ("law", none)).1 (He.cT K ("law", none)).2) (hcode : cdv = .ref (He.cT K ("law", none)).1) {params : Arguments} {body : Expr} {scope : Scope} {p lpos pos : Pos} {b : EX}
    (hr : RoomG 15 (cxOf (L2.CX P w) P w K mg base N_law "law" (defScope (top 75)) (He.ga K "law") cdv A outer s H E).A) (L : LamS (defScope (top 75)) scope) (hdef : defaultsOf params (cxOf (L2.CX P w) P w K mg base N_law "law" (defScope (top 75)) (He.ga K "law") cdv A outer s H E).env = ([], []))
    (hbind : ∀ (q : Str) (cl : List (Str × Addr)) (pm cv ctv : Value), bindArgs (PySem.W.kla_fn "<lambda>" q params body scope cl pm cv ctv) ⟨[], []⟩ = pure [])
    (hbody : ∀ (A' : Around) (outer' : List Env) (s' : Shared) (H' : Hp) (E' : XK) (f c' : Addr), RoomG 13 (A'.deeper (lamEnv (cxOf (L2.CX P w) P w K mg base N_law "law" (defScope (top 75)) (He.ga K "law") cdv A outer s H E) scope s'.heap.objs.size f c')) → PE (lamCx (cxOf (L2.CX P w) P w K mg base N_law "law" (defScope (top 75)) (He.ga K "law") cdv A outer s H E) A' outer' s' H' E' scope f c') body (tX K (wf E') b)) :
    PE (cxOf (L2.CX P w) P w K mg base N_law "law" (defScope (top 75)) (He.ga K "law") cdv A outer s H E) (.Call (.Name "_law_met" p) [.Lambda params body scope lpos] [] pos) (tX K (wf E) (xMet CLs h__law_met fine__law_met b)) := by
  obtain ⟨cdvm, M⟩ := T.M__law_met
  exact yj_met (k := 13) (X := cxOf (L2.CX P w) P w K mg base N_law "law" (defScope (top 75)) (He.ga K "law") cdv A outer s H E) (CL := CLs) M rfl (.inl rfl) (met__law_met T hr) (fun y hy h hh => T.exm y hy _ (HC__law_met h hh)) TB hcode (tabIn_law K) (fun p hp e => T.tabU p hp _ (tabIn_law K) e) (hr.mono (by decide)) L hdef hbind hbody
theorem law_fn (T : Txt K mg) (TB : TabB base mg (He.cT K ("law", none)).1 (He.cT K ("law", none)).2) {fd : FuncData} (F : FunD K "law" "law" (defArgs (top 75)) (defBody (top 75)) (defScope (top 75)) [] [] (He.ga K "law") fd) (c_Machine : CalK P w K mg base 7 "Machine" 4 m_Machine) (c__law_dice : CalY P w K mg base 1 "_law_dice" 2 m__law_dice) (c__law_right : CalY P w K mg base 12 "_law_right" 1 m__law_right) (c_moments : CalY P w K mg base 7 "moments" 5 m_moments) (c_true_run : CalY P w K mg base 8 "true_run" 5 m_true_run) : FnG P w K mg base 16 (He.ga K "law") fd ["script"] (spY K 1 m_law) := by
  refine fnG_okL false (k := 15) F S_law (fun cdv A outer s H E hcode hr => ?_)
  exact (yss_cons (ys_for (passes_of rfl) rfl (vj_rg1 T.n_range (dnE (W := wF) (yj_bi (call_max2 rfl) oMax2_ok T.n_max (yaj_cons (yj_c ej_int) (yaj_cons (yj_bi (call_min2 rfl) oMin2_ok T.n_min (yaj_cons (yj_c ej_int) (yaj_cons (yj_bi call_len oLen_ok T.n_len (yaj_cons (yj_var 0) yaj_nil) (by decide +kernel)) yaj_nil)) (by decide +kernel)) yaj_nil)) (by decide +kernel)))) (gj_nm 1 S_law.nd) (yss_one (ys_if (zj_not (zj_tru (yj_call (takes_of rfl rfl rfl rfl) (c__law_right.mono (by decide)) hr (yaj_cons (yj_call (takes_of rfl rfl rfl rfl) (c__law_dice.mono (by decide)) hr (yaj_cons (yj_var 0) (yaj_cons (yj_var 1) yaj_nil))) yaj_nil)))) yss_never yss_nil)))
    (yss_cons (ys_set (i := 2) S_law.nd (yj_make (takes_of rfl rfl rfl rfl) (c_Machine.mono (by decide)) hr (yaj_cons (yj_c ej_int) (yaj_cons (yj_tup (yaj_cons (yj_tup (yaj_cons (yj_c ej_int) yaj_nil)) (yaj_cons (yj_tup (yaj_cons (yj_c ej_int) yaj_nil)) yaj_nil))) (yaj_cons (yj_tup (yaj_cons (yj_tup (yaj_cons (yj_c ej_int) (yaj_cons (yj_tup (yaj_cons (yj_tup (yaj_cons (yj_c ej_int) (yaj_cons (yj_c ej_int) yaj_nil))) yaj_nil)) (yaj_cons (yj_tup (yaj_cons (yj_c ej_int) yaj_nil)) (yaj_cons (yj_c ej_int) yaj_nil))))) (yaj_cons (yj_tup (yaj_cons (yj_c ej_int) (yaj_cons (yj_tup (yaj_cons (yj_tup (yaj_cons (yj_c ej_int) (yaj_cons (yj_c ej_int) yaj_nil))) yaj_nil)) (yaj_cons (yj_tup yaj_nil) (yaj_cons (yj_c ej_int) yaj_nil))))) yaj_nil))) yaj_nil)))))
    (yss_cons (ys_set (i := 3) S_law.nd (yj_lstC (yaj_cons (lam_law__law_met T TB hcode (hr.mono (by decide)) (lamS_by (by decide +kernel)) rfl (fun _ _ _ _ _ => rfl) (fun _ _ _ _ _ _ _ hr2 => (yj_call (takes_of rfl rfl rfl rfl) (c_true_run.mono (by decide)) hr2 (yaj_cons (yj_var 2) (yaj_cons (yj_tup (yaj_cons (yj_c ej_int) yaj_nil)) (yaj_cons (yj_c ej_int) (yaj_cons (yj_tup (yaj_cons (yj_c ej_int) (yaj_cons (yj_c ej_int) yaj_nil))) (yaj_cons (yj_tup (yaj_cons (yj_tup (yaj_cons (yj_c ej_int) (yaj_cons (yj_tup (yaj_cons (yj_c ej_int) (yaj_cons (yj_c ej_int) yaj_nil))) (yaj_cons (yj_c ej_int) yaj_nil)))) yaj_nil)) yaj_nil)))))))) yaj_nil)))
    (yss_cons (ys_app (yj_var 3) (lam_law__law_met T TB hcode (hr.mono (by decide)) (lamS_by (by decide +kernel)) rfl (fun _ _ _ _ _ => rfl) (fun _ _ _ _ _ _ _ hr2 => (yj_call (takes_of rfl rfl rfl rfl) (c_true_run.mono (by decide)) hr2 (yaj_cons (yj_var 2) (yaj_cons (yj_tup yaj_nil) (yaj_cons (yj_pow (yj_c ej_int) (yj_c ej_int)) (yaj_cons (yj_tup (yaj_cons (yj_c ej_int) (yaj_cons (yj_c ej_int) yaj_nil))) (yaj_cons (yj_tup (yaj_cons (yj_tup (yaj_cons (yj_pow (yj_c ej_int) (yj_c ej_int)) (yaj_cons (yj_tup (yaj_cons (yj_c ej_int) (yaj_cons (yj_c ej_int) yaj_nil))) (yaj_cons (yj_c ej_int) yaj_nil)))) yaj_nil)) yaj_nil)))))))))
    (yss_cons (ys_app (yj_var 3) (lam_law__law_met T TB hcode (hr.mono (by decide)) (lamS_by (by decide +kernel)) rfl (fun _ _ _ _ _ => rfl) (fun _ _ _ _ _ _ _ hr2 => (yj_call (takes_of rfl rfl rfl rfl) (c_moments.mono (by decide)) hr2 (yaj_cons (yj_var 2) (yaj_cons (yj_tup (yaj_cons (yj_c ej_int) (yaj_cons (yj_c ej_int) yaj_nil))) (yaj_cons (yj_c ej_int) (yaj_cons (yj_tup (yaj_cons (yj_pow (yj_c ej_int) (yj_c ej_int)) (yaj_cons (yj_c ej_int) yaj_nil))) (yaj_cons (yj_tup yaj_nil) yaj_nil)))))))))
    (yss_one (ys_ret (yj_cmp (op_eqP (hu200 hr.r)) oEq_ok (yj_var 3) (yj_repW (yj_lst (yaj_cons (yj_c ej_str) yaj_nil)) (yj_c ej_int))))))))))
end
end MR
end
section
set_option Elab.async false
set_option linter.all false
set_option maxRecDepth 100000
set_option maxHeartbeats 0
set_option maxHeartbeats 0
namespace MR
open PySem PySem.Spec PyProof.Rows L2 VY LamX
open VL hiding SX tX xIf eLcC
def d_is_number : He.DefD := ⟨("is_number", none), "is_number", "is_number", defArgs (top 12), defBody (top 12), defScope (top 12), [], []⟩
def d_is_from_to : He.DefD := ⟨("is_from_to", none), "is_from_to", "is_from_to", defArgs (top 13), defBody (top 13), defScope (top 13), [], []⟩
def d_is_row : He.DefD := ⟨("is_row", none), "is_row", "is_row", defArgs (top 16), defBody (top 16), defScope (top 16), [], []⟩
def d_are_numbers : He.DefD := ⟨("are_numbers", none), "are_numbers", "are_numbers", defArgs (top 15), defBody (top 15), defScope (top 15), [], []⟩
def d_are_limits : He.DefD := ⟨("are_limits", none), "are_limits", "are_limits", defArgs (top 34), defBody (top 34), defScope (top 34), [], []⟩
def d_are_guards : He.DefD := ⟨("are_guards", none), "are_guards", "are_guards", defArgs (top 18), defBody (top 18), defScope (top 18), [], []⟩
def d_is_ascending : He.DefD := ⟨("is_ascending", none), "is_ascending", "is_ascending", defArgs (top 17), defBody (top 17), defScope (top 17), [], []⟩
def d_has_door_form : He.DefD := ⟨("has_door_form", none), "has_door_form", "has_door_form", defArgs (top 33), defBody (top 33), defScope (top 33), [], []⟩
def d_machine_fault : He.DefD := ⟨("machine_fault", none), "machine_fault", "machine_fault", defArgs (top 35), defBody (top 35), defScope (top 35), [], []⟩
def d__law_roll : He.DefD := ⟨("_law_roll", none), "_law_roll", "_law_roll", defArgs (top 71), defBody (top 71), defScope (top 71), [], []⟩
def d__law_pick : He.DefD := ⟨("_law_pick", none), "_law_pick", "_law_pick", defArgs (top 72), defBody (top 72), defScope (top 72), [], []⟩
def d_check_machine : He.DefD := ⟨("check_machine", none), "check_machine", "check_machine", defArgs (top 37), defBody (top 37), defScope (top 37), [], []⟩
def d_check_number : He.DefD := ⟨("check_number", none), "check_number", "check_number", defArgs (top 14), defBody (top 14), defScope (top 14), [], []⟩
def d_is_fraction : He.DefD := ⟨("is_fraction", none), "is_fraction", "is_fraction", defArgs (top 26), defBody (top 26), defScope (top 26), [], []⟩
def d_is_from_zero : He.DefD := ⟨("is_from_zero", none), "is_from_zero", "is_from_zero", defArgs (top 27), defBody (top 27), defScope (top 27), [], []⟩
def d_check_margin : He.DefD := ⟨("check_margin", none), "check_margin", "check_margin", defArgs (top 44), defBody (top 44), defScope (top 44), [], []⟩
def d_check_program : He.DefD := ⟨("check_program", none), "check_program", "check_program", defArgs (top 50), defBody (top 50), defScope (top 50), [], []⟩
def d_order_of : He.DefD := ⟨("order_of", none), "order_of", "order_of", defArgs (top 24), defBody (top 24), defScope (top 24), [], []⟩
def d_is_lag : He.DefD := ⟨("is_lag", none), "is_lag", "is_lag", defArgs (top 53), defBody (top 53), defScope (top 53), [], []⟩
def d_do_follow : He.DefD := ⟨("do_follow", none), "do_follow", "do_follow", defArgs (top 43), defBody (top 43), defScope (top 43), [], []⟩
def d_has_ticking_form : He.DefD := ⟨("has_ticking_form", none), "has_ticking_form", "has_ticking_form", defArgs (top 52), defBody (top 52), defScope (top 52), [], []⟩
def d_check_ticking : He.DefD := ⟨("check_ticking", none), "check_ticking", "check_ticking", defArgs (top 54), defBody (top 54), defScope (top 54), [], []⟩
def d_reduced : He.DefD := ⟨("reduced", none), "reduced", "reduced", defArgs (top 21), defBody (top 21), defScope (top 21), [], []⟩
def d_sum_of : He.DefD := ⟨("sum_of", none), "sum_of", "sum_of", defArgs (top 22), defBody (top 22), defScope (top 22), [], []⟩
def d_door_moments : He.DefD := ⟨("door_moments", none), "door_moments", "door_moments", defArgs (top 56), defBody (top 56), defScope (top 56), [], []⟩
def d_moments : He.DefD := ⟨("moments", none), "moments", "moments", defArgs (top 55), defBody (top 55), defScope (top 55), [], []⟩
def d_noticed : He.DefD := ⟨("noticed", none), "noticed", "noticed", defArgs (top 57), defBody (top 57), defScope (top 57), [], []⟩
def d_counters : He.DefD := ⟨("counters", none), "counters", "counters", defArgs (top 59), defBody (top 59), defScope (top 59), [], []⟩
def d_ticking_fault : He.DefD := ⟨("ticking_fault", none), "ticking_fault", "ticking_fault", defArgs (top 63), defBody (top 63), defScope (top 63), [], []⟩
def d_notice_ticks : He.DefD := ⟨("notice_ticks", none), "notice_ticks", "notice_ticks", defArgs (top 58), defBody (top 58), defScope (top 58), [], []⟩
def d_difference_of : He.DefD := ⟨("difference_of", none), "difference_of", "difference_of", defArgs (top 23), defBody (top 23), defScope (top 23), [], []⟩
def d_begun_at : He.DefD := ⟨("begun_at", none), "begun_at", "begun_at", defArgs (top 61), defBody (top 61), defScope (top 61), [], []⟩
def d_reading_rows : He.DefD := ⟨("reading_rows", none), "reading_rows", "reading_rows", defArgs (top 62), defBody (top 62), defScope (top 62), [], []⟩
def d_counter_rows : He.DefD := ⟨("counter_rows", none), "counter_rows", "counter_rows", defArgs (top 60), defBody (top 60), defScope (top 60), [], []⟩
def d_asked_at : He.DefD := ⟨("asked_at", none), "asked_at", "asked_at", defArgs (top 38), defBody (top 38), defScope (top 38), [], []⟩
def d_do_keep_asked : He.DefD := ⟨("do_keep_asked", none), "do_keep_asked", "do_keep_asked", defArgs (top 65), defBody (top 65), defScope (top 65), [], []⟩
def d_with_zeros : He.DefD := ⟨("with_zeros", none), "with_zeros", "with_zeros", defArgs (top 45), defBody (top 45), defScope (top 45), [], []⟩
def d_beyond : He.DefD := ⟨("beyond", none), "beyond", "beyond", defArgs (top 48), defBody (top 48), defScope (top 48), [], []⟩
def d_all_above : He.DefD := ⟨("all_above", none), "all_above", "all_above", defArgs (top 47), defBody (top 47), defScope (top 47), [], []⟩
def d_step_misses : He.DefD := ⟨("step_misses", none), "step_misses", "step_misses", defArgs (top 46), defBody (top 46), defScope (top 46), [], []⟩
def d_first_missed : He.DefD := ⟨("first_missed", none), "first_missed", "first_missed", defArgs (top 66), defBody (top 66), defScope (top 66), [], []⟩
def d_first_fault : He.DefD := ⟨("first_fault", none), "first_fault", "first_fault", defArgs (top 64), defBody (top 64), defScope (top 64), [], []⟩
def d_true_run : He.DefD := ⟨("true_run", none), "true_run", "true_run", defArgs (top 67), defBody (top 67), defScope (top 67), [], []⟩
def d_is_ticking : He.DefD := ⟨("is_ticking", none), "is_ticking", "is_ticking", defArgs (top 51), defBody (top 51), defScope (top 51), [], []⟩
def d_ticks_for : He.DefD := ⟨("ticks_for", none), "ticks_for", "ticks_for", defArgs (top 68), defBody (top 68), defScope (top 68), [], []⟩
def d__law_right : He.DefD := ⟨("_law_right", none), "_law_right", "_law_right", defArgs (top 74), defBody (top 74), defScope (top 74), [], []⟩
def d__law_dice : He.DefD := ⟨("_law_dice", none), "_law_dice", "_law_dice", defArgs (top 70), defBody (top 70), defScope (top 70), [], []⟩
def d_law : He.DefD := ⟨("law", none), "law", "law", defArgs (top 75), defBody (top 75), defScope (top 75), [], []⟩
def d__law_met : He.DefD := ⟨("_law_met", none), "_law_met", "_law_met", defArgs (top 73), defBody (top 73), defScope (top 73), [], []⟩
def d_Machine : He.DefD := ⟨("Machine", some "__init__"), "__init__", "Machine.__init__", defArgs (top 1000), defBody (top 1000), defScope (top 1000), [], []⟩
def d_Machine_doors : He5.DefA := ⟨fun K => He5.wf K (He.ga K "Machine") "property" "doors", "doors", "Machine.doors", defArgs (top 1003), defBody (top 1003), defScope (top 1003), [], []⟩
def d_Machine_clocks : He5.DefA := ⟨fun K => He5.wf K (He.ga K "Machine") "property" "clocks", "clocks", "Machine.clocks", defArgs (top 1001), defBody (top 1001), defScope (top 1001), [], []⟩
def d_Machine_limits : He5.DefA := ⟨fun K => He5.wf K (He.ga K "Machine") "property" "limits", "limits", "Machine.limits", defArgs (top 1002), defBody (top 1002), defScope (top 1002), [], []⟩
def fnA2 : List He5.DefA := [d_Machine_doors, d_Machine_clocks, d_Machine_limits]
def ini_InvalidNumber : Stmt := match top 8 with
  | .ClassDef _ _ _ b _ _ _ _ _ _ _ => b.getD 0 (.Pass ⟨0, 0, 0, 0⟩)
  | s => s
def di_InvalidNumber : He.DefD := ⟨("InvalidNumber", some "__init__"), "__init__", "InvalidNumber.__init__", defArgs ini_InvalidNumber, defBody ini_InvalidNumber, defScope ini_InvalidNumber, [], []⟩
def ini_Refused : Stmt := match top 9 with
  | .ClassDef _ _ _ b _ _ _ _ _ _ _ => b.getD 0 (.Pass ⟨0, 0, 0, 0⟩)
  | s => s
def di_Refused : He.DefD := ⟨("Refused", some "__init__"), "__init__", "Refused.__init__", defArgs ini_Refused, defBody ini_Refused, defScope ini_Refused, [], []⟩
def fn0 : List He.DefD := [d_is_number, d_is_from_to, d_is_row, d_are_numbers, d_are_limits, d_are_guards, d_is_ascending, d_has_door_form, d_machine_fault, d__law_roll, d__law_pick, d_check_machine, d_check_number, d_is_fraction, d_is_from_zero, d_check_margin, d_check_program, d_order_of, d_is_lag, d_do_follow]
def fn1 : List He.DefD := [d_has_ticking_form, d_check_ticking, d_reduced, d_sum_of, d_door_moments, d_moments, d_noticed, d_counters, d_ticking_fault, d_notice_ticks, d_difference_of, d_begun_at, d_reading_rows, d_counter_rows, d_asked_at, d_do_keep_asked, d_with_zeros, d_beyond, d_all_above, d_step_misses]
def fn2 : List He.DefD := [d_first_missed, d_first_fault, d_true_run, d_is_ticking, d_ticks_for, d__law_right, d__law_dice, d_law, d__law_met, d_Machine, di_InvalidNumber, di_Refused]
def fn : List He.DefD := fn0 ++ fn1 ++ fn2
def fa0 : List He.Fa := [.glo "is_number", .glo "is_from_to", .glo "is_row", .glo "are_numbers", .glo "are_limits", .glo "are_guards", .glo "is_ascending", .glo "has_door_form", .glo "machine_fault", .glo "_law_roll", .glo "_law_pick", .glo "check_machine", .glo "check_number", .glo "is_fraction", .glo "is_from_zero", .glo "check_margin", .glo "check_program", .glo "order_of", .glo "is_lag", .glo "do_follow", .glo "has_ticking_form", .glo "check_ticking", .glo "reduced", .glo "sum_of", .glo "door_moments", .glo "moments", .glo "noticed", .glo "counters", .glo "ticking_fault", .glo "notice_ticks"]
def fa1 : List He.Fa := [.glo "difference_of", .glo "begun_at", .glo "reading_rows", .glo "counter_rows", .glo "asked_at", .glo "do_keep_asked", .glo "with_zeros", .glo "beyond", .glo "all_above", .glo "step_misses", .glo "first_missed", .glo "first_fault", .glo "true_run", .glo "is_ticking", .glo "ticks_for", .glo "_law_right", .glo "_law_dice", .glo "law", .glo "_law_met", .free "abs", .free "all", .free "bool", .free "int", .free "isinstance", .free "len", .free "max", .free "min", .free "range", .free "repr", .free "tuple"]
def fa2 : List He.Fa := [.free "zip", .int "GREATEST" 999999999999999999999999999999999999999999999999999999999999, .int "MOST_CLOCKS" 3, .int "MOST_DOORS" 12, .int "MOST_M" 64, .int "MOST_NUMBER" 4, .int "MOST_ROOMS" 6, .int "MOST_STEPS" 20000, .glo "InvalidFraction", .glo "InvalidMachine", .glo "InvalidNumber", .glo "InvalidOperation", .glo "InvalidRun", .glo "Refused", .exc "InvalidFraction", .exc "InvalidMachine", .exc "InvalidOperation", .exc "InvalidRun", .glo "WORDS", .glo "ZERO", .glo "Machine", .mkr "Machine", .noat "Machine" "_clocks", .noat "Machine" "_doors", .noat "Machine" "_limits"]
def fa : List He.Fa := fa0 ++ fa1 ++ fa2
def exL (K : PySem.W.Frag) : List Bool := [He.tupB K "WORDS" [.str "stay", .str "low", .str "high", .str "enter"],
  He.tupB K "ZERO" [.int 0, .int 1],
  lowK K "InvalidNumber" "given" bmI "IndexError.__new__",
  lowK K "Refused" "reason" bmA "ArithmeticError.__new__",
  exmB K CLs,
  tabUB (LawTabs.T K),
  obB K OCs,
  propB K "Machine" "doors",
  propB K "Machine" "clocks",
  propB K "Machine" "limits",
  He.eqO (PySem.W.nsIn K mainGlobals "gcd") (some (some (.builtin "math.gcd")))]
def ex (K : PySem.W.Frag) : Bool := (exL K).all id
theorem ex_at {K : PySem.W.Frag} (h : ex K = true) {b : Bool} (hb : b ∈ exL K) : b = true := List.all_eq_true.mp h b hb
def tf : List He.Defn := [("_law_right", none), ("law", none)]
abbrev R : PySem.W.OpenRow := PySem.W.OpenLaw.row PySem.Challenge.rw_anymargin_k59_errors_of_ticking_runs
def asL : List Addr := ([3, 6, 4, 49, 59, 72, 84, 96, 108, 127, 147, 157, 164, 171, 176, 183, 190, 195, 196, 203, 210, 217, 224, 231, 238, 245, 252, 259, 329, 340, 347, 348, 355, 362, 367, 372, 377, 384, 391, 398, 403, 410, 417, 424, 429, 436, 441, 446, 451, 456, 461, 468, 473, 478, 485, 490, 497, 504, 511, 518, 525, 532, 539, 0, 48, 58, 71, 83, 95, 107, 126, 146, 156, 163, 170, 175, 182, 189, 194, 202, 209, 216, 223, 230, 237, 244, 251, 258, 328, 339, 346, 354, 361, 366, 371, 376, 383, 390, 397, 402] : List Addr) ++ ([409, 416, 423, 428, 435, 440, 445, 450, 455, 460, 467, 472, 477, 484, 489, 496, 503, 510, 517, 524, 531, 538, 43, 44, 45, 46, 47, 57, 60, 70, 82, 94, 106, 124, 125, 128, 144, 145, 148, 151, 152, 153, 154, 155, 158, 159, 160, 161, 162, 165, 166, 167, 168, 169, 172, 173, 174, 177, 178, 179, 180, 181, 184, 185, 186, 187, 188, 191, 192, 193, 197, 198, 199, 200, 201, 204, 205, 206, 207, 208, 211, 212, 213, 214, 215, 218, 219, 220, 221, 222, 225, 226, 227, 228, 229, 232, 233, 234, 235, 236] : List Addr) ++ ([239, 240, 241, 242, 243, 246, 247, 248, 249, 250, 253, 254, 255, 256, 257, 273, 281, 289, 297, 305, 312, 319, 326, 327, 330, 331, 334, 335, 336, 337, 338, 341, 342, 343, 344, 345, 349, 350, 351, 352, 353, 356, 357, 358, 359, 360, 363, 364, 365, 368, 369, 370, 373, 374, 375, 378, 379, 380, 381, 382, 385, 386, 387, 388, 389, 392, 393, 394, 395, 396, 399, 400, 401, 404, 405, 406, 407, 408, 411, 412, 413, 414, 415, 418, 419, 420, 421, 422, 425, 426, 427, 430, 431, 432, 433, 434, 437, 438, 439, 442] : List Addr) ++ ([443, 444, 447, 448, 449, 452, 453, 454, 457, 458, 459, 462, 463, 464, 465, 466, 469, 470, 471, 474, 475, 476, 479, 480, 481, 482, 483, 486, 487, 488, 491, 492, 493, 494, 495, 498, 499, 500, 501, 502, 505, 506, 507, 508, 509, 512, 513, 514, 515, 516, 519, 520, 521, 522, 523, 526, 527, 528, 529, 530, 533, 534, 535, 536, 537, 123, 143, 272, 280, 288, 296, 304, 311, 318, 325, 118, 119, 120, 121, 122, 138, 139, 140, 141, 142, 267, 268, 269, 270, 271, 279, 287, 295, 303, 306, 307, 308, 309, 310, 313] : List Addr) ++ ([314, 315, 316, 317, 320, 321, 322, 323, 324] : List Addr)
abbrev hk : PySem.W.Hook := hookL asL fa fn tf ex fnA2
def ob (s : PySem.W.SharedT) : He.AlX × He.AlD := obsL asL fa fn tf ex fnA2 (HandSHeadRun.getT s)
theorem ob_eq (s : PySem.W.SharedT) : ob s = hk.obs s.abs := obsL_eq (HandSHeadRun.getT_eq s)
def loose : List PySem.Str := (["gcd", "_wall", "__name__", "MarginError", "InvalidFraction", "InvalidMachine", "InvalidRun", "InvalidOperation", "InvalidNumber", "Refused", "GREATEST", "is_number", "is_from_to", "check_number", "are_numbers", "is_row", "is_ascending", "are_guards", "ZERO", "reduced", "sum_of", "difference_of", "order_of", "is_fraction", "is_from_zero", "MOST_CLOCKS", "MOST_ROOMS", "MOST_DOORS", "MOST_NUMBER", "has_door_form"] : List PySem.Str) ++ (["are_limits", "machine_fault", "Machine", "check_machine", "asked_at", "MOST_M", "MOST_STEPS", "WORDS", "do_follow", "check_margin", "with_zeros", "step_misses", "all_above", "beyond", "check_program", "is_ticking", "has_ticking_form", "is_lag", "check_ticking", "moments", "door_moments", "noticed", "notice_ticks", "counters", "counter_rows", "begun_at", "reading_rows", "ticking_fault", "first_fault", "do_keep_asked"] : List PySem.Str) ++ (["first_missed", "true_run", "ticks_for", "_law_dice", "_law_roll", "_law_pick", "_law_met", "_law_right"] : List PySem.Str)
/-! the run told in parts: each part runs the module anew, which keeps the kernel's memory small -/
theorem optP {α β γ : Type} {o : Option α} {f : α → β} {g : α → γ} {a : β} {b : γ} (h1 : o.map f = some a) (h2 : o.map g = some b) : o.map (fun x => (f x, g x)) = some (a, b) := by
  cases o with
  | none => cases h1
  | some x => cases h1; cases h2; rfl
theorem optA {α : Type} {o : Option α} {f g : α → Bool} (h1 : o.map f = some true) (h2 : o.map g = some true) : o.map (fun x => f x && g x) = some true := by
  cases o with
  | none => cases h1
  | some x =>
    have e1 : f x = true := Option.some.inj h1
    have e2 : g x = true := Option.some.inj h2
    show some (f x && g x) = some true
    rw [e1, e2]; rfl
theorem optL {α β γ : Type} {o : Option α} {f : α → β} {g : α → γ} {a : β} {b : γ} (h : o.map (fun x => (f x, g x)) = some (a, b)) : o.map f = some a := by
  cases o with
  | none => cases h
  | some x => exact congrArg some (congrArg (fun z : β × γ => z.1) (Option.some.inj h))
theorem optR {α β γ : Type} {o : Option α} {f : α → β} {g : α → γ} {a : β} {b : γ} (h : o.map (fun x => (f x, g x)) = some (a, b)) : o.map g = some b := by
  cases o with
  | none => cases h
  | some x => exact congrArg some (congrArg (fun z : β × γ => z.2) (Option.some.inj h))
theorem optC {α β γ : Type} {o : Option α} {f : α → β} {a : β} (h : o.map f = some a) (c : γ) : o.map (fun _ => c) = some c := by
  cases o with
  | none => cases h
  | some x => rfl
noncomputable abbrev SRun (w : World) := HandSHeadRun.wholeF (fun p => HandSHeadRun.stepQ (HandSHeadRun.denQ HandSHeadRun.tabQ) p w) HandSHeadRun.fenceQ 12000 R.prog
abbrev kOf (s : PySem.W.SharedT) : PySem.W.Frag := He.frT (HandSHeadRun.getT s) asL
section
open PySem.W PySem.Calls HandSHeadRun
theorem runA (w : World) : (SRun w).map (fun x => (looksF R.prog x.1.heap x.2.abs, seenQ (PySem.W.view R.prog [0, 75]) loose (importedModules R.prog.main.body) (fun s => xlAt (PySem.W.view R.prog [0, 75]) [] s && recOk R.toRowW.records s) x.2.abs)) = some (true, openGood (PySem.W.view R.prog [0, 75]) loose) := by kernel_rfl
end
theorem runB (w : World) : (SRun w).map (fun x => ((fa.all fun f => f.ok (kOf x.2)) && (fn.all fun d => d.ok (kOf x.2)), fn.map fun d => He.fnW (kOf x.2) d.at_)) = some (true, fn.map He.DefD.val) := by kernel_rfl
theorem runC (w : World) : (SRun w).map (fun x => (ex (kOf x.2) && He.tabsB (HandSHeadRun.getT x.2) tf (kOf x.2), He5.obsA [] fnA2 (kOf x.2))) = some (true, He5.valA fnA2) := by kernel_rfl
theorem run (w : World) : HandSHeadRun.RunEqI R (PySem.W.view R.prog [0, 75]) hk ob 12000 loose w := by
  unfold HandSHeadRun.RunEqI
  exact optP (optL (runA w)) (optP (optR (runA w)) (optP (optP (optP (runB w) (optC (runB w) _)) (optL (runC w))) (optR (runC w))))
theorem facts {P : Program} {w : World} {K : PySem.W.Frag} {h : Heap} {mg : Str → Option Value} {f : Addr} (X : K.In h) (G : h.Ns mainGlobals mg) (hfa : mg ("law" : Str) = some (.ref f)) (c : He.SaysD fa fn K) (mo : ex K = true) (c2 : He5.SaysA [] fnA2 K) :
    ∃ fd : FuncData, (∀ (s : Shared) (v : Value), BindsTo s fd ⟨[v], []⟩ [("script", v)]) ∧ ∀ base : Heap, K.In base → base.Ns mainGlobals mg → (∀ p ∈ tf.map (He.cT K), TabB base mg p.1 p.2) → FnG P w K mg base 16 f fd ["script"] (spY K 1 m_law) := by
  have F_Machine : ∃ fd, FunD K "__init__" "Machine.__init__" (defArgs (top 1000)) (defBody (top 1000)) (defScope (top 1000)) [] [] (He.ma K (He.ga K "Machine") "__init__") fd := c.def_ 49 (d := d_Machine) rfl
  have F_Machine_doors : ∃ fd, FunD K "doors" "Machine.doors" (defArgs (top 1003)) (defBody (top 1003)) (defScope (top 1003)) [] [] (He5.wf K (He.ga K "Machine") "property" "doors") fd := He5.SaysA.def_ c2 0 (d := d_Machine_doors) rfl
  have F_Machine_clocks : ∃ fd, FunD K "clocks" "Machine.clocks" (defArgs (top 1001)) (defBody (top 1001)) (defScope (top 1001)) [] [] (He5.wf K (He.ga K "Machine") "property" "clocks") fd := He5.SaysA.def_ c2 1 (d := d_Machine_clocks) rfl
  have F_Machine_limits : ∃ fd, FunD K "limits" "Machine.limits" (defArgs (top 1002)) (defBody (top 1002)) (defScope (top 1002)) [] [] (He5.wf K (He.ga K "Machine") "property" "limits") fd := He5.SaysA.def_ c2 2 (d := d_Machine_limits) rfl
  have h_is_number := He.glo_ok X G (c.fact 0 (f := .glo "is_number") rfl)
  have F_is_number : FnP K "is_number" 12 := c.def_ 0 (d := d_is_number) rfl
  have h_is_from_to := He.glo_ok X G (c.fact 1 (f := .glo "is_from_to") rfl)
  have F_is_from_to : FnP K "is_from_to" 13 := c.def_ 1 (d := d_is_from_to) rfl
  have h_is_row := He.glo_ok X G (c.fact 2 (f := .glo "is_row") rfl)
  have F_is_row : FnP K "is_row" 16 := c.def_ 2 (d := d_is_row) rfl
  have h_are_numbers := He.glo_ok X G (c.fact 3 (f := .glo "are_numbers") rfl)
  have F_are_numbers : FnP K "are_numbers" 15 := c.def_ 3 (d := d_are_numbers) rfl
  have h_are_limits := He.glo_ok X G (c.fact 4 (f := .glo "are_limits") rfl)
  have F_are_limits : FnP K "are_limits" 34 := c.def_ 4 (d := d_are_limits) rfl
  have h_are_guards := He.glo_ok X G (c.fact 5 (f := .glo "are_guards") rfl)
  have F_are_guards : FnP K "are_guards" 18 := c.def_ 5 (d := d_are_guards) rfl
  have h_is_ascending := He.glo_ok X G (c.fact 6 (f := .glo "is_ascending") rfl)
  have F_is_ascending : FnP K "is_ascending" 17 := c.def_ 6 (d := d_is_ascending) rfl
  have h_has_door_form := He.glo_ok X G (c.fact 7 (f := .glo "has_door_form") rfl)
  have F_has_door_form : FnP K "has_door_form" 33 := c.def_ 7 (d := d_has_door_form) rfl
  have h_machine_fault := He.glo_ok X G (c.fact 8 (f := .glo "machine_fault") rfl)
  have F_machine_fault : FnP K "machine_fault" 35 := c.def_ 8 (d := d_machine_fault) rfl
  have h__law_roll := He.glo_ok X G (c.fact 9 (f := .glo "_law_roll") rfl)
  have F__law_roll : FnP K "_law_roll" 71 := c.def_ 9 (d := d__law_roll) rfl
  have h__law_pick := He.glo_ok X G (c.fact 10 (f := .glo "_law_pick") rfl)
  have F__law_pick : FnP K "_law_pick" 72 := c.def_ 10 (d := d__law_pick) rfl
  have h_check_machine := He.glo_ok X G (c.fact 11 (f := .glo "check_machine") rfl)
  have F_check_machine : FnP K "check_machine" 37 := c.def_ 11 (d := d_check_machine) rfl
  have h_check_number := He.glo_ok X G (c.fact 12 (f := .glo "check_number") rfl)
  have F_check_number : FnP K "check_number" 14 := c.def_ 12 (d := d_check_number) rfl
  have h_is_fraction := He.glo_ok X G (c.fact 13 (f := .glo "is_fraction") rfl)
  have F_is_fraction : FnP K "is_fraction" 26 := c.def_ 13 (d := d_is_fraction) rfl
  have h_is_from_zero := He.glo_ok X G (c.fact 14 (f := .glo "is_from_zero") rfl)
  have F_is_from_zero : FnP K "is_from_zero" 27 := c.def_ 14 (d := d_is_from_zero) rfl
  have h_check_margin := He.glo_ok X G (c.fact 15 (f := .glo "check_margin") rfl)
  have F_check_margin : FnP K "check_margin" 44 := c.def_ 15 (d := d_check_margin) rfl
  have h_check_program := He.glo_ok X G (c.fact 16 (f := .glo "check_program") rfl)
  have F_check_program : FnP K "check_program" 50 := c.def_ 16 (d := d_check_program) rfl
  have h_order_of := He.glo_ok X G (c.fact 17 (f := .glo "order_of") rfl)
  have F_order_of : FnP K "order_of" 24 := c.def_ 17 (d := d_order_of) rfl
  have h_is_lag := He.glo_ok X G (c.fact 18 (f := .glo "is_lag") rfl)
  have F_is_lag : FnP K "is_lag" 53 := c.def_ 18 (d := d_is_lag) rfl
  have h_do_follow := He.glo_ok X G (c.fact 19 (f := .glo "do_follow") rfl)
  have F_do_follow : FnP K "do_follow" 43 := c.def_ 19 (d := d_do_follow) rfl
  have h_has_ticking_form := He.glo_ok X G (c.fact 20 (f := .glo "has_ticking_form") rfl)
  have F_has_ticking_form : FnP K "has_ticking_form" 52 := c.def_ 20 (d := d_has_ticking_form) rfl
  have h_check_ticking := He.glo_ok X G (c.fact 21 (f := .glo "check_ticking") rfl)
  have F_check_ticking : FnP K "check_ticking" 54 := c.def_ 21 (d := d_check_ticking) rfl
  have h_reduced := He.glo_ok X G (c.fact 22 (f := .glo "reduced") rfl)
  have F_reduced : FnP K "reduced" 21 := c.def_ 22 (d := d_reduced) rfl
  have h_sum_of := He.glo_ok X G (c.fact 23 (f := .glo "sum_of") rfl)
  have F_sum_of : FnP K "sum_of" 22 := c.def_ 23 (d := d_sum_of) rfl
  have h_door_moments := He.glo_ok X G (c.fact 24 (f := .glo "door_moments") rfl)
  have F_door_moments : FnP K "door_moments" 56 := c.def_ 24 (d := d_door_moments) rfl
  have h_moments := He.glo_ok X G (c.fact 25 (f := .glo "moments") rfl)
  have F_moments : FnP K "moments" 55 := c.def_ 25 (d := d_moments) rfl
  have h_noticed := He.glo_ok X G (c.fact 26 (f := .glo "noticed") rfl)
  have F_noticed : FnP K "noticed" 57 := c.def_ 26 (d := d_noticed) rfl
  have h_counters := He.glo_ok X G (c.fact 27 (f := .glo "counters") rfl)
  have F_counters : FnP K "counters" 59 := c.def_ 27 (d := d_counters) rfl
  have h_ticking_fault := He.glo_ok X G (c.fact 28 (f := .glo "ticking_fault") rfl)
  have F_ticking_fault : FnP K "ticking_fault" 63 := c.def_ 28 (d := d_ticking_fault) rfl
  have h_notice_ticks := He.glo_ok X G (c.fact 29 (f := .glo "notice_ticks") rfl)
  have F_notice_ticks : FnP K "notice_ticks" 58 := c.def_ 29 (d := d_notice_ticks) rfl
  have h_difference_of := He.glo_ok X G (c.fact 30 (f := .glo "difference_of") rfl)
  have F_difference_of : FnP K "difference_of" 23 := c.def_ 30 (d := d_difference_of) rfl
  have h_begun_at := He.glo_ok X G (c.fact 31 (f := .glo "begun_at") rfl)
  have F_begun_at : FnP K "begun_at" 61 := c.def_ 31 (d := d_begun_at) rfl
  have h_reading_rows := He.glo_ok X G (c.fact 32 (f := .glo "reading_rows") rfl)
  have F_reading_rows : FnP K "reading_rows" 62 := c.def_ 32 (d := d_reading_rows) rfl
  have h_counter_rows := He.glo_ok X G (c.fact 33 (f := .glo "counter_rows") rfl)
  have F_counter_rows : FnP K "counter_rows" 60 := c.def_ 33 (d := d_counter_rows) rfl
  have h_asked_at := He.glo_ok X G (c.fact 34 (f := .glo "asked_at") rfl)
  have F_asked_at : FnP K "asked_at" 38 := c.def_ 34 (d := d_asked_at) rfl
  have h_do_keep_asked := He.glo_ok X G (c.fact 35 (f := .glo "do_keep_asked") rfl)
  have F_do_keep_asked : FnP K "do_keep_asked" 65 := c.def_ 35 (d := d_do_keep_asked) rfl
  have h_with_zeros := He.glo_ok X G (c.fact 36 (f := .glo "with_zeros") rfl)
  have F_with_zeros : FnP K "with_zeros" 45 := c.def_ 36 (d := d_with_zeros) rfl
  have h_beyond := He.glo_ok X G (c.fact 37 (f := .glo "beyond") rfl)
  have F_beyond : FnP K "beyond" 48 := c.def_ 37 (d := d_beyond) rfl
  have h_all_above := He.glo_ok X G (c.fact 38 (f := .glo "all_above") rfl)
  have F_all_above : FnP K "all_above" 47 := c.def_ 38 (d := d_all_above) rfl
  have h_step_misses := He.glo_ok X G (c.fact 39 (f := .glo "step_misses") rfl)
  have F_step_misses : FnP K "step_misses" 46 := c.def_ 39 (d := d_step_misses) rfl
  have h_first_missed := He.glo_ok X G (c.fact 40 (f := .glo "first_missed") rfl)
  have F_first_missed : FnP K "first_missed" 66 := c.def_ 40 (d := d_first_missed) rfl
  have h_first_fault := He.glo_ok X G (c.fact 41 (f := .glo "first_fault") rfl)
  have F_first_fault : FnP K "first_fault" 64 := c.def_ 41 (d := d_first_fault) rfl
  have h_true_run := He.glo_ok X G (c.fact 42 (f := .glo "true_run") rfl)
  have F_true_run : FnP K "true_run" 67 := c.def_ 42 (d := d_true_run) rfl
  have h_is_ticking := He.glo_ok X G (c.fact 43 (f := .glo "is_ticking") rfl)
  have F_is_ticking : FnP K "is_ticking" 51 := c.def_ 43 (d := d_is_ticking) rfl
  have h_ticks_for := He.glo_ok X G (c.fact 44 (f := .glo "ticks_for") rfl)
  have F_ticks_for : FnP K "ticks_for" 68 := c.def_ 44 (d := d_ticks_for) rfl
  have h__law_right := He.glo_ok X G (c.fact 45 (f := .glo "_law_right") rfl)
  have F__law_right : FnP K "_law_right" 74 := c.def_ 45 (d := d__law_right) rfl
  have h__law_dice := He.glo_ok X G (c.fact 46 (f := .glo "_law_dice") rfl)
  have F__law_dice : FnP K "_law_dice" 70 := c.def_ 46 (d := d__law_dice) rfl
  have h_law := He.glo_ok X G (c.fact 47 (f := .glo "law") rfl)
  have F_law : FnP K "law" 75 := c.def_ 47 (d := d_law) rfl
  have h__law_met := He.glo_ok X G (c.fact 48 (f := .glo "_law_met") rfl)
  have F__law_met : FnP K "_law_met" 73 := c.def_ 48 (d := d__law_met) rfl
  have T : Txt K mg := by
    constructor
    · exact He.free_ok X G (c.fact 49 (f := .free "abs") rfl)
    · exact He.free_ok X G (c.fact 50 (f := .free "all") rfl)
    · exact He.free_ok X G (c.fact 51 (f := .free "bool") rfl)
    · exact He.free_ok X G (c.fact 52 (f := .free "int") rfl)
    · exact He.free_ok X G (c.fact 53 (f := .free "isinstance") rfl)
    · exact He.free_ok X G (c.fact 54 (f := .free "len") rfl)
    · exact He.free_ok X G (c.fact 55 (f := .free "max") rfl)
    · exact He.free_ok X G (c.fact 56 (f := .free "min") rfl)
    · exact He.free_ok X G (c.fact 57 (f := .free "range") rfl)
    · exact He.free_ok X G (c.fact 58 (f := .free "repr") rfl)
    · exact He.free_ok X G (c.fact 59 (f := .free "tuple") rfl)
    · exact He.free_ok X G (c.fact 60 (f := .free "zip") rfl)
    · exact He.int_ok X G (c.fact 61 (f := .int "GREATEST" 999999999999999999999999999999999999999999999999999999999999) rfl)
    · exact He.int_ok X G (c.fact 62 (f := .int "MOST_CLOCKS" 3) rfl)
    · exact He.int_ok X G (c.fact 63 (f := .int "MOST_DOORS" 12) rfl)
    · exact He.int_ok X G (c.fact 64 (f := .int "MOST_M" 64) rfl)
    · exact He.int_ok X G (c.fact 65 (f := .int "MOST_NUMBER" 4) rfl)
    · exact He.int_ok X G (c.fact 66 (f := .int "MOST_ROOMS" 6) rfl)
    · exact He.int_ok X G (c.fact 67 (f := .int "MOST_STEPS" 20000) rfl)
    · exact ⟨He.glo_ok X G (c.fact 78 (f := .glo "WORDS") rfl), fun A H => ⟨_, _, rfl, He.tupB_ok (ex_at mo (b := He.tupB K "WORDS" [.str "stay", .str "low", .str "high", .str "enter"]) (by simp [exL])) H, ⟨_, _, rfl, rfl, ⟨_, _, rfl, rfl, ⟨_, _, rfl, rfl, ⟨_, _, rfl, rfl, rfl⟩⟩⟩⟩⟩⟩
    · exact ⟨He.glo_ok X G (c.fact 79 (f := .glo "ZERO") rfl), fun A H => ⟨_, _, rfl, He.tupB_ok (ex_at mo (b := He.tupB K "ZERO" [.int 0, .int 1]) (by simp [exL])) H, ⟨_, _, rfl, rfl, ⟨_, _, rfl, rfl, rfl⟩⟩⟩⟩
    · exact PySem.W.mg_of X G (He.eqO_ok (ex_at mo (b := He.eqO (PySem.W.nsIn K mainGlobals "gcd") (some (some (.builtin "math.gcd")))) (by simp [exL])))
    · exact h_counters
    · exact h_is_ticking
    · exact h_moments
    · exact h_noticed
    · exact h_ticking_fault
    · exact h_true_run
    · exact obB_ok (ex_at mo (b := obB K OCs) (by simp [exL]))
    · exact (by
      intro C hC
      simp only [OCs, List.mem_cons, List.mem_nil_iff, or_false] at hC
      rcases hC with rfl
      · exact He.noat_ok (c.fact 82 (f := .noat "Machine" "_clocks") rfl))
    · exact (by
      intro C hC
      simp only [OCs, List.mem_cons, List.mem_nil_iff, or_false] at hC
      rcases hC with rfl
      · exact He.noat_ok (c.fact 83 (f := .noat "Machine" "_doors") rfl))
    · exact (by
      intro C hC
      simp only [OCs, List.mem_cons, List.mem_nil_iff, or_false] at hC
      rcases hC with rfl
      · exact He.noat_ok (c.fact 84 (f := .noat "Machine" "_limits") rfl))
    · exact He.glo_ok X G (c.fact 80 (f := .glo "Machine") rfl)
    · exact He.mkr_ok (c.fact 81 (f := .mkr "Machine") rfl)
    · exact propB_ok (ex_at mo (b := propB K "Machine" "doors") (by simp [exL]))
    · exact propB_ok (ex_at mo (b := propB K "Machine" "clocks") (by simp [exL]))
    · exact propB_ok (ex_at mo (b := propB K "Machine" "limits") (by simp [exL]))
    · exact ⟨He.glo_ok X G (c.fact 68 (f := .glo "InvalidFraction") rfl), c.fact 74 (f := .exc "InvalidFraction") rfl⟩
    · exact ⟨He.glo_ok X G (c.fact 69 (f := .glo "InvalidMachine") rfl), c.fact 75 (f := .exc "InvalidMachine") rfl⟩
    · exact ⟨He.glo_ok X G (c.fact 71 (f := .glo "InvalidOperation") rfl), c.fact 76 (f := .exc "InvalidOperation") rfl⟩
    · exact ⟨He.glo_ok X G (c.fact 72 (f := .glo "InvalidRun") rfl), c.fact 77 (f := .exc "InvalidRun") rfl⟩
    · exact lowK_ok (He.glo_ok X G (c.fact 70 (f := .glo "InvalidNumber") rfl)) (ex_at mo (b := lowK K "InvalidNumber" "given" bmI "IndexError.__new__") (by simp [exL])) (c.def_ 50 (d := di_InvalidNumber) rfl)
    · exact lowK_ok (He.glo_ok X G (c.fact 73 (f := .glo "Refused") rfl)) (ex_at mo (b := lowK K "Refused" "reason" bmA "ArithmeticError.__new__") (by simp [exL])) (c.def_ 51 (d := di_Refused) rfl)
    · exact exmB_ok (ex_at mo (b := exmB K CLs) (by simp [exL]))
    · exact (by obtain ⟨fd, F⟩ := F__law_met; exact metD_of h__law_met F S__law_met (fun _ _ _ _ _ _ us hl => match us, hl with | [_], _ => rfl))
    · exact tabUB_ok (ex_at mo (b := tabUB (LawTabs.T K)) (by simp [exL]))
  obtain ⟨fd, F⟩ := id F_law
  have e := hfa.symm.trans h_law
  cases e
  have b := FunD.bindsA (ps := ["script"]) F fun _ _ _ _ _ _ us hl => match us, hl with | [_], _ => rfl
  refine ⟨fd, fun s v => b s [v] rfl, fun base KB GB TBs => ?_⟩
  have TB__law_right := TBs (He.cT K ("_law_right", none)) (List.mem_map.mpr ⟨_, by simp [tf], rfl⟩)
  have TB_law := TBs (He.cT K ("law", none)) (List.mem_map.mpr ⟨_, by simp [tf], rfl⟩)
  have k_is_number := c_is_number (P := P) (w := w) (base := base) T h_is_number F_is_number 
  have k_is_from_to := c_is_from_to (P := P) (w := w) (base := base) T h_is_from_to F_is_from_to k_is_number
  have k_is_row := c_is_row (P := P) (w := w) (base := base) T h_is_row F_is_row 
  have k_are_numbers := c_are_numbers (P := P) (w := w) (base := base) T h_are_numbers F_are_numbers k_is_from_to k_is_row
  have k_are_limits := c_are_limits (P := P) (w := w) (base := base) T h_are_limits F_are_limits k_are_numbers
  have k_are_guards := c_are_guards (P := P) (w := w) (base := base) T h_are_guards F_are_guards k_are_numbers k_is_row
  have k_is_ascending := c_is_ascending (P := P) (w := w) (base := base) T h_is_ascending F_is_ascending 
  have k_has_door_form := c_has_door_form (P := P) (w := w) (base := base) T h_has_door_form F_has_door_form k_are_guards k_is_ascending k_is_from_to k_is_row
  have k_machine_fault := c_machine_fault (P := P) (w := w) (base := base) T h_machine_fault F_machine_fault k_are_limits k_has_door_form k_is_from_to
  have k_Machine := c_Machine (P := P) (w := w) (base := base) T F_Machine k_machine_fault
  have k__law_roll := c__law_roll (P := P) (w := w) (base := base) T h__law_roll F__law_roll 
  have k__law_pick := c__law_pick (P := P) (w := w) (base := base) T h__law_pick F__law_pick k__law_roll
  have k_check_machine := c_check_machine (P := P) (w := w) (base := base) T h_check_machine F_check_machine 
  have k_Machine_doors := c_Machine_doors (P := P) (w := w) (base := base) T F_Machine_doors 
  have k_check_number := c_check_number (P := P) (w := w) (base := base) T h_check_number F_check_number k_is_from_to
  have k_is_fraction := c_is_fraction (P := P) (w := w) (base := base) T h_is_fraction F_is_fraction k_is_number k_is_row
  have k_is_from_zero := c_is_from_zero (P := P) (w := w) (base := base) T h_is_from_zero F_is_from_zero k_is_fraction
  have k_check_margin := c_check_margin (P := P) (w := w) (base := base) T h_check_margin F_check_margin k_is_from_zero
  have k_check_program := c_check_program (P := P) (w := w) (base := base) T h_check_program F_check_program k_Machine_doors k_check_machine k_check_margin k_check_number k_is_ascending
  have k_order_of := c_order_of (P := P) (w := w) (base := base) T h_order_of F_order_of 
  have k_is_lag := c_is_lag (P := P) (w := w) (base := base) T h_is_lag F_is_lag k_order_of
  have k_do_follow := c_do_follow (P := P) (w := w) (base := base) T h_do_follow F_do_follow k_Machine_doors
  have k_has_ticking_form := c_has_ticking_form (P := P) (w := w) (base := base) T h_has_ticking_form F_has_ticking_form k_Machine_doors k_do_follow k_is_from_to k_is_from_zero k_is_lag k_is_number k_is_row
  have k_check_ticking := c_check_ticking (P := P) (w := w) (base := base) T h_check_ticking F_check_ticking k_check_program k_has_ticking_form
  have k_reduced := c_reduced (P := P) (w := w) (base := base) T h_reduced F_reduced 
  have k_sum_of := c_sum_of (P := P) (w := w) (base := base) T h_sum_of F_sum_of k_reduced
  have k_door_moments := c_door_moments (P := P) (w := w) (base := base) T h_door_moments F_door_moments k_reduced k_sum_of
  have k_moments := c_moments (P := P) (w := w) (base := base) T h_moments F_moments k_check_ticking k_door_moments
  have k_noticed := c_noticed (P := P) (w := w) (base := base) T h_noticed F_noticed k_check_ticking
  have k_counters := c_counters (P := P) (w := w) (base := base) T h_counters F_counters k_check_ticking
  have k_ticking_fault := c_ticking_fault (P := P) (w := w) (base := base) T h_ticking_fault F_ticking_fault k_check_ticking
  have k_notice_ticks := c_notice_ticks (P := P) (w := w) (base := base) T h_notice_ticks F_notice_ticks 
  have k_Machine_clocks := c_Machine_clocks (P := P) (w := w) (base := base) T F_Machine_clocks 
  have k_difference_of := c_difference_of (P := P) (w := w) (base := base) T h_difference_of F_difference_of k_reduced
  have k_begun_at := c_begun_at (P := P) (w := w) (base := base) T h_begun_at F_begun_at k_Machine_clocks k_Machine_doors
  have k_reading_rows := c_reading_rows (P := P) (w := w) (base := base) T h_reading_rows F_reading_rows k_Machine_clocks k_begun_at k_difference_of
  have k_counter_rows := c_counter_rows (P := P) (w := w) (base := base) T h_counter_rows F_counter_rows k_Machine_clocks k_begun_at k_notice_ticks
  have k_Machine_limits := c_Machine_limits (P := P) (w := w) (base := base) T F_Machine_limits 
  have k_asked_at := c_asked_at (P := P) (w := w) (base := base) T h_asked_at F_asked_at k_Machine_clocks k_Machine_doors k_Machine_limits
  have k_do_keep_asked := c_do_keep_asked (P := P) (w := w) (base := base) T h_do_keep_asked F_do_keep_asked 
  have k_with_zeros := c_with_zeros (P := P) (w := w) (base := base) T h_with_zeros F_with_zeros 
  have k_beyond := c_beyond (P := P) (w := w) (base := base) T h_beyond F_beyond k_difference_of k_order_of
  have k_all_above := c_all_above (P := P) (w := w) (base := base) T h_all_above F_all_above k_beyond
  have k_step_misses := c_step_misses (P := P) (w := w) (base := base) T h_step_misses F_step_misses k_Machine_doors k_Machine_limits k_all_above k_beyond
  have k_first_missed := c_first_missed (P := P) (w := w) (base := base) T h_first_missed F_first_missed k_Machine_clocks k_Machine_doors k_step_misses k_with_zeros
  have k_first_fault := c_first_fault (P := P) (w := w) (base := base) T h_first_fault F_first_fault k_Machine_doors k_asked_at k_counter_rows k_do_keep_asked k_door_moments k_first_missed k_notice_ticks k_order_of k_reading_rows
  have k_true_run := c_true_run (P := P) (w := w) (base := base) T h_true_run F_true_run k_check_ticking k_difference_of k_door_moments k_first_fault
  have k_is_ticking := c_is_ticking (P := P) (w := w) (base := base) T h_is_ticking F_is_ticking k_check_program k_has_ticking_form
  have k_ticks_for := c_ticks_for (P := P) (w := w) (base := base) T h_ticks_for F_ticks_for k_check_margin k_check_number
  have k__law_right := c__law_right (P := P) (w := w) (base := base) T h__law_right F__law_right TB__law_right k_Machine k__law_pick k_ticks_for k_true_run k_counters k_is_ticking k_moments k_noticed k_ticking_fault
  have k__law_dice := c__law_dice (P := P) (w := w) (base := base) T h__law_dice F__law_dice 
  exact law_fn T TB_law F k_Machine k__law_dice k__law_right k_moments k_true_run
end MR
open PySem PySem.W PySem.Calls PyProof.Rows
theorem PySem.Challenge.cw_anymargin_k59_errors_of_ticking_runs_holds : PySem.Challenge.rw_anymargin_k59_errors_of_ticking_runs.Holds := by
  w_on; o_law
  refine HandSHeadRun.head_imp (r := OpenLaw.row PySem.Challenge.rw_anymargin_k59_errors_of_ticking_runs) (q := view (OpenLaw.row PySem.Challenge.rw_anymargin_k59_errors_of_ticking_runs).prog [0, 75]) (H := MR.hk) (ob := MR.ob) (M := 12000) (loose := MR.loose) (d := HandSHeadRun.topDef (OpenLaw.row PySem.Challenge.rw_anymargin_k59_errors_of_ticking_runs).prog 75) (kwd := []) MR.ob_eq
    MR.run (by kernel_rfl) (by kernel_rfl) (by kernel_rfl) (by rfl) (by first | assumption | decide +kernel) (by decide +kernel) ⟨rfl, rfl, rfl, rfl, rfl, by decide +kernel⟩ ?hw ?hc
  case hw => w_witness2
  case hc =>
    refine VY.walk_ofG (l := PySem.Challenge.rw_anymargin_k59_errors_of_ticking_runs) (n := 63) (k := 16) (x := "script") rfl (by decide) (by kernel_rfl) ⟨⟨rfl, by decide, by decide⟩, rfl⟩ ?F (fun _ _ _ _ _ z => VY.noCX z)
    intro w mg fa h Y G hmg0
    obtain ⟨K, KX, c, c2⟩ := Y
    have hmg : mg ("law" : PySem.Str) = some (.ref fa) := by
      have e : (HandSHeadRun.topDef (OpenLaw.row PySem.Challenge.rw_anymargin_k59_errors_of_ticking_runs).prog 75).name = ("law" : PySem.Str) := by kernel_rfl
      rw [← e]
      exact hmg0
    obtain ⟨fd, hb, hF⟩ := MR.facts (P := (PySem.Challenge.rw_anymargin_k59_errors_of_ticking_runs).prog) (w := w) KX G hmg c.t.d c.more c2
    refine ⟨K, KX, fd, MR.tf.map (He.cT K), VY.spY K 1 MR.m_law, fun p hp => ?_, fun p hp => ?_, fun p hp => ?_, hb, fun H a ns hl hbits hO hS => ?_, hF⟩
    · obtain ⟨d, hd, rfl⟩ := List.mem_map.mp hp
      exact c.empty d hd
    · obtain ⟨d, hd, rfl⟩ := List.mem_map.mp hp
      exact c.out d hd
    · obtain ⟨d, hd, rfl⟩ := List.mem_map.mp hp
      exact PySem.W.codeHd_of_K KX (c.hd d hd)
    · obtain ⟨μ', e⟩ := MR.law_true ns hl
      refine VY.law_startG (fun p hp => ?_) hS e
      have : ∃ d ∈ MR.tf, p.1 = (He.cT K d).2 := by
        simp only [VL.LawTabs.T, List.mem_cons, List.mem_nil_iff, or_false] at hp
        simp only [MR.tf, List.mem_cons, List.mem_nil_iff, or_false]
        grind
      obtain ⟨d, hd, e1⟩ := this
      rw [e1]
      exact LamX.TabS.nil (hO _ (List.mem_map.mpr ⟨d, hd, rfl⟩))
end
