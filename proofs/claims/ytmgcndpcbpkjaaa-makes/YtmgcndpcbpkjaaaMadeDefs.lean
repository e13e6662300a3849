/- What waypostlaw.made keeps in memory: plain lemmas. -/
import Derived.Test.YtmgcndpcbpkjaaaStillW
import Derived.Test.YtmgcndpcbpkjaaaNew
import Derived.Test.YtmgcndpcbpkjaaaRefNew
namespace Go.Proofs.Ytmgcndpcbpkjaaa
open Go.RowKit
set_option linter.unusedSimpArgs false
set_option linter.unusedVariables false

def nf (P : Nat → Pr) (j : Nat) : Nat := if j % 2 = 0 then (P (j / 2)).ni else (P (j / 2)).ne
def rf (P : Nat → Pr) (j : Nat) : Nat → Rl := if j % 2 = 0 then (P (j / 2)).ir else (P (j / 2)).er
def roomV (P : Nat → Pr) (R : Nat → Nat) (j : Nat) : Value := .slice (some ⟨R j, 0, none⟩) (nf P j + 8) (nf P j + 8)

theorem nf_even (P : Nat → Pr) (k : Nat) : nf P (2 * k) = (P k).ni := by simp [nf]
theorem nf_odd (P : Nat → Pr) (k : Nat) : nf P (2 * k + 1) = (P k).ne := by
  have h1 : (2 * k + 1) % 2 = 1 := by omega
  have h2 : (2 * k + 1) / 2 = k := by omega
  simp [nf, h1, h2]
theorem rf_even (P : Nat → Pr) (k : Nat) : rf P (2 * k) = (P k).ir := by simp [rf]
theorem rf_odd (P : Nat → Pr) (k : Nat) : rf P (2 * k + 1) = (P k).er := by
  have h1 : (2 * k + 1) % 2 = 1 := by omega
  have h2 : (2 * k + 1) / 2 = k := by omega
  simp [rf, h1, h2]

/-- The peer that is handed over: its filters lie in rooms. -/
def newP (P : Nat → Pr) (R : Nat → Nat) (i : Nat) : Pr :=
  { P i with im := .slice (some ⟨R (2 * i), 0, none⟩) (P i).ni ((P i).ni + 8), ex := .slice (some ⟨R (2 * i + 1), 0, none⟩) (P i).ne ((P i).ne + 8) }

def ownCells : List Value := [.int .i64 77, .int .i64 78, .int .i64 79, .int .i64 80, .int .i64 81, .slice none 0 0, .slice none 0 0]

def allC (P : Nat → Pr) (R : Nat → Nat) (n i : Nat) : List Value := if i < n then (newP P R i).cells else ownCells

theorem allC_length (P : Nat → Pr) (R : Nat → Nat) (n i : Nat) : (allC P R n i).length = 7 := by
  unfold allC; split <;> rfl

/-- The block of all peers: from lo up to hi they are as they must be. -/
def AllRow (w : World) (G n lo hi : Nat) (c : Nat → List Value) : Prop :=
  ∃ cur, w.heap[G]? = some (.cells cur 34 (0, 0)) ∧ cur.size = (n + 8) * 7 ∧ ∀ i, lo ≤ i → i < hi → ∀ j u, (c i)[j]? = some u → cur[i * 7 + j]? = some u

theorem AllRow.lt {w : World} {G n lo hi : Nat} {c : Nat → List Value} (h : AllRow w G n lo hi c) : G < w.heap.size := by
  obtain ⟨cur, h1, _⟩ := h; exact (Array.getElem?_eq_some_iff.1 h1).1

theorem AllRow.same {w w' : World} {G n lo hi : Nat} {c : Nat → List Value} (h : AllRow w G n lo hi c) (hG : w'.heap[G]? = w.heap[G]?) : AllRow w' G n lo hi c := by
  obtain ⟨cur, h1, h2, h3⟩ := h; exact ⟨cur, by rw [hG]; exact h1, h2, h3⟩

theorem AllRow.frozen {w : World} {G n lo hi : Nat} {c : Nat → List Value} (h : AllRow w G n lo hi c) (j : Nat) : w.frozen? ⟨G, j, none⟩ = false := by
  obtain ⟨cur, h1, _⟩ := h; exact frozen_of_row _ _ _ _ _ h1

theorem AllRow.cellSome {w : World} {G n lo hi : Nat} {c : Nat → List Value} (h : AllRow w G n lo hi c) (j : Nat) (hj : j < (n + 8) * 7) : ∃ u, w.cell? ⟨G, j, none⟩ = some u := by
  obtain ⟨cur, h1, h2, _⟩ := h
  rw [cell_of_row _ _ _ _ _ _ h1]
  exact ⟨cur[j], by simp [h2, hj]⟩

theorem AllRow.cell {w : World} {G n lo hi : Nat} {c : Nat → List Value} (h : AllRow w G n lo hi c) (i : Nat) (h1 : lo ≤ i) (h2 : i < hi) (j : Nat) (u : Value) (hu : (c i)[j]? = some u) : w.cell? ⟨G, i * 7 + j, none⟩ = some u := by
  obtain ⟨cur, e1, e2, e3⟩ := h
  rw [cell_of_row _ _ _ _ _ _ e1]; exact e3 i h1 h2 j u hu

theorem AllRow.setOut {w : World} {G n lo hi : Nat} {c : Nat → List Value} (hc : ∀ i, (c i).length = 7) (h : AllRow w G n lo hi c) (k j : Nat) (hk : hi ≤ k ∨ k < lo) (hj : j < 7) (v : Value) :
    AllRow (w.setCell ⟨G, k * 7 + j, none⟩ v) G n lo hi c := by
  obtain ⟨cur, h1, h2, h3⟩ := h
  refine ⟨_, heap_setCell_same _ _ _ _ _ v h1, by simpa using h2, fun i hlo hi' m u hu => ?_⟩
  have hm : m < 7 := by rw [← hc i]; exact (List.getElem?_eq_some_iff.1 hu).1
  rw [Array.getElem?_setIfInBounds_ne (by omega)]
  exact h3 i hlo hi' m u hu

theorem AllRow.grow {w : World} {G n lo k : Nat} {c : Nat → List Value} (h : AllRow w G n lo k c) (hx : ∀ j u, (c k)[j]? = some u → w.cell? ⟨G, k * 7 + j, none⟩ = some u) : AllRow w G n lo (k + 1) c := by
  obtain ⟨cur, h1, h2, h3⟩ := h
  refine ⟨cur, h1, h2, fun i hlo hi j u hu => ?_⟩
  rcases Nat.lt_succ_iff_lt_or_eq.1 hi with hlt | rfl
  · exact h3 i hlo hlt j u hu
  · have := hx j u hu
    rw [cell_of_row _ _ _ _ _ _ h1] at this; exact this

theorem AllRow.drop {w : World} {G n lo lo' hi : Nat} {c : Nat → List Value} (h : AllRow w G n lo hi c) (hl : lo ≤ lo') : AllRow w G n lo' hi c := by
  obtain ⟨cur, h1, h2, h3⟩ := h; exact ⟨cur, h1, h2, fun i h4 h5 => h3 i (by omega) h5⟩

theorem AllRow.congr {w : World} {G n lo hi : Nat} {c c' : Nat → List Value} (h : AllRow w G n lo hi c) (hc : ∀ i, lo ≤ i → i < hi → c' i = c i) : AllRow w G n lo hi c' := by
  obtain ⟨cur, h1, h2, h3⟩ := h; exact ⟨cur, h1, h2, fun i h4 h5 j u hu => h3 i h4 h5 j u (by rw [← hc i h4 h5]; exact hu)⟩

theorem cs_o {w : World} {G a b : Nat} {v : Value} (h : a ≠ b) : (w.setCell ⟨G, a, none⟩ v).cell? ⟨G, b, none⟩ = w.cell? ⟨G, b, none⟩ := World.cell?_setCell_other _ _ _ _ (by simp <;> omega)
theorem cs_s {w : World} {G a : Nat} {v : Value} (h : ∃ u, w.cell? ⟨G, a, none⟩ = some u) : (w.setCell ⟨G, a, none⟩ v).cell? ⟨G, a, none⟩ = some v := by
  obtain ⟨u, hu⟩ := h; exact World.cell?_setCell_same _ _ _ hu

/-- Seven cells written. -/
theorem seven {w : World} {G b : Nat} (hs : ∀ j, j < 7 → ∃ u, w.cell? ⟨G, b + j, none⟩ = some u) (v0 v1 v2 v3 v4 v5 v6 : Value) (j : Nat) (u : Value) (hu : [v0, v1, v2, v3, v4, v5, v6][j]? = some u) :
    (((((((w.setCell ⟨G, b, none⟩ v0).setCell ⟨G, b + 1, none⟩ v1).setCell ⟨G, b + 2, none⟩ v2).setCell ⟨G, b + 3, none⟩ v3).setCell ⟨G, b + 4, none⟩ v4).setCell ⟨G, b + 5, none⟩ v5).setCell ⟨G, b + 6, none⟩ v6).cell? ⟨G, b + j, none⟩ = some u := by
  match j, hu with
  | 0, hu => simp at hu; subst hu; rw [cs_o (by omega), cs_o (by omega), cs_o (by omega), cs_o (by omega), cs_o (by omega), cs_o (by omega)]; exact cs_s (hs 0 (by omega))
  | 1, hu => simp at hu; subst hu; rw [cs_o (by omega), cs_o (by omega), cs_o (by omega), cs_o (by omega), cs_o (by omega)]; exact cs_s (by obtain ⟨x, hx⟩ := hs 1 (by omega); exact ⟨x, by rw [cs_o (by omega)]; exact hx⟩)
  | 2, hu => simp at hu; subst hu; rw [cs_o (by omega), cs_o (by omega), cs_o (by omega), cs_o (by omega)]; exact cs_s (by obtain ⟨x, hx⟩ := hs 2 (by omega); exact ⟨x, by rw [cs_o (by omega), cs_o (by omega)]; exact hx⟩)
  | 3, hu => simp at hu; subst hu; rw [cs_o (by omega), cs_o (by omega), cs_o (by omega)]; exact cs_s (by obtain ⟨x, hx⟩ := hs 3 (by omega); exact ⟨x, by rw [cs_o (by omega), cs_o (by omega), cs_o (by omega)]; exact hx⟩)
  | 4, hu => simp at hu; subst hu; rw [cs_o (by omega), cs_o (by omega)]; exact cs_s (by obtain ⟨x, hx⟩ := hs 4 (by omega); exact ⟨x, by rw [cs_o (by omega), cs_o (by omega), cs_o (by omega), cs_o (by omega)]; exact hx⟩)
  | 5, hu => simp at hu; subst hu; rw [cs_o (by omega)]; exact cs_s (by obtain ⟨x, hx⟩ := hs 5 (by omega); exact ⟨x, by rw [cs_o (by omega), cs_o (by omega), cs_o (by omega), cs_o (by omega), cs_o (by omega)]; exact hx⟩)
  | 6, hu => simp at hu; subst hu; exact cs_s (by obtain ⟨x, hx⟩ := hs 6 (by omega); exact ⟨x, by rw [cs_o (by omega), cs_o (by omega), cs_o (by omega), cs_o (by omega), cs_o (by omega), cs_o (by omega)]; exact hx⟩)
  | j + 7, hu => simp at hu

/-- Seven cells written, and the last two once more. -/
theorem nine {w : World} {G b : Nat} (hs : ∀ j, j < 7 → ∃ u, w.cell? ⟨G, b + j, none⟩ = some u) (v0 v1 v2 v3 v4 v5 v6 x5 x6 : Value) (j : Nat) (u : Value) (hu : [v0, v1, v2, v3, v4, x5, x6][j]? = some u) :
    (((((((((w.setCell ⟨G, b, none⟩ v0).setCell ⟨G, b + 1, none⟩ v1).setCell ⟨G, b + 2, none⟩ v2).setCell ⟨G, b + 3, none⟩ v3).setCell ⟨G, b + 4, none⟩ v4).setCell ⟨G, b + 5, none⟩ v5).setCell ⟨G, b + 6, none⟩ v6).setCell ⟨G, b + 5, none⟩ x5).setCell ⟨G, b + 6, none⟩ x6).cell? ⟨G, b + j, none⟩ = some u := by
  have h7 := seven hs v0 v1 v2 v3 v4 v5 v6
  match j, hu with
  | 0, hu => rw [cs_o (by omega), cs_o (by omega)]; exact h7 0 u hu
  | 1, hu => rw [cs_o (by omega), cs_o (by omega)]; exact h7 1 u hu
  | 2, hu => rw [cs_o (by omega), cs_o (by omega)]; exact h7 2 u hu
  | 3, hu => rw [cs_o (by omega), cs_o (by omega)]; exact h7 3 u hu
  | 4, hu => rw [cs_o (by omega), cs_o (by omega)]; exact h7 4 u hu
  | 5, hu => simp at hu; subst hu; rw [cs_o (by omega)]; exact cs_s ⟨v5, h7 5 v5 rfl⟩
  | 6, hu => simp at hu; subst hu; exact cs_s ⟨v6, by rw [cs_o (by omega)]; exact h7 6 v6 rfl⟩
  | j + 7, hu => simp at hu

/-- The rooms from lo up to hi: each holds the rules, and eight behind; no two are one; all lie from B on. -/
structure Rooms (w : World) (B : Nat) (P : Nat → Pr) (R : Nat → Nat) (lo hi : Nat) : Prop where
  row : ∀ j, lo ≤ j → j < hi → RuleRow w (R j) (nf P j + 8) (nf P j + 8) (roomR (nf P j) (rf P j))
  base : ∀ j, j < hi → B ≤ R j
  inj : ∀ i j, i < hi → j < hi → R i = R j → i = j

theorem Rooms.same {w w' : World} {B : Nat} {P : Nat → Pr} {R : Nat → Nat} {lo hi : Nat} (h : Rooms w B P R lo hi) (hs : ∀ j, lo ≤ j → j < hi → w'.heap[R j]? = w.heap[R j]?) : Rooms w' B P R lo hi :=
  ⟨fun j h1 h2 => by obtain ⟨cur, e1, e2, e3⟩ := h.row j h1 h2; exact ⟨cur, by rw [hs j h1 h2]; exact e1, e2, e3⟩, h.base, h.inj⟩

theorem Rooms.below {w w' : World} {B C : Nat} {P : Nat → Pr} {R : Nat → Nat} {lo hi : Nat} (h : Rooms w B P R lo hi) (hB : Below C w w') (hC : w.heap.size ≤ C) : Rooms w' B P R lo hi :=
  h.same fun j h1 h2 => hB.block _ (Nat.lt_of_lt_of_le (h.row j h1 h2).lt hC)

/-- Behind an append to the rooms' own list: the rooms stay. -/
theorem Rooms.appended {w w' : World} {B C size n : Nat} {P : Nat → Pr} {R : Nat → Nat} {lo hi : Nat} {v : Value} {xs : List Value} (h : Rooms w B P R lo hi) (hown : w.ownsRow C 31 size v n xs) (hg : w.grownBy w' v.ownBlock) : Rooms w' B P R lo hi := by
  refine h.same fun j h1 h2 => hg.block _ (h.row j h1 h2).lt fun he => ?_
  obtain ⟨cur, e1, _⟩ := h.row j h1 h2
  rcases hown.2 with ⟨rfl, _⟩ | ⟨g, cap, cur', rfl, _, h3, _⟩
  · simp [Value.ownBlock] at he
  · simp [Value.ownBlock] at he
    rw [he, h3] at e1
    simp at e1

theorem AllRow.appended {w w' : World} {C G size m n lo hi : Nat} {c : Nat → List Value} {v : Value} {xs : List Value} (h : AllRow w G n lo hi c) (hown : w.ownsRow C 31 size v m xs) (hg : w.grownBy w' v.ownBlock) : AllRow w' G n lo hi c := by
  refine h.same (hg.block _ h.lt fun he => ?_)
  obtain ⟨cur, e1, _⟩ := h
  rcases hown.2 with ⟨rfl, _⟩ | ⟨g, cap, cur', rfl, _, h3, _⟩
  · simp [Value.ownBlock] at he
  · simp [Value.ownBlock] at he
    rw [he, h3] at e1
    simp at e1

/-- Two rooms more. -/
def addR (R : Nat → Nat) (k x y : Nat) (j : Nat) : Nat := if j = 2 * k then x else if j = 2 * k + 1 then y else R j

theorem addR_old {R : Nat → Nat} {k x y j : Nat} (h : j < 2 * k) : addR R k x y j = R j := by unfold addR; rw [if_neg (by omega), if_neg (by omega)]
theorem addR_x {R : Nat → Nat} {k x y : Nat} : addR R k x y (2 * k) = x := by simp [addR]
theorem addR_y {R : Nat → Nat} {k x y : Nat} : addR R k x y (2 * k + 1) = y := by simp [addR]

theorem Rooms.add {w : World} {B : Nat} {P : Nat → Pr} {R : Nat → Nat} {k x y : Nat} (h : Rooms w B P R 0 (2 * k)) (hx : RuleRow w x ((P k).ni + 8) ((P k).ni + 8) (roomR (P k).ni (P k).ir))
    (hy : RuleRow w y ((P k).ne + 8) ((P k).ne + 8) (roomR (P k).ne (P k).er)) (hBx : B ≤ x) (hBy : B ≤ y) (hxy : x ≠ y) (hnew : ∀ j, j < 2 * k → R j ≠ x ∧ R j ≠ y) : Rooms w B P (addR R k x y) 0 (2 * (k + 1)) := by
  refine ⟨fun j _ hj => ?_, fun j hj => ?_, fun i j hi hj he => ?_⟩
  · by_cases h1 : j < 2 * k
    · rw [addR_old h1]; exact h.row j (Nat.zero_le _) h1
    · by_cases h2 : j = 2 * k
      · subst h2; rw [addR_x, nf_even, rf_even]; exact hx
      · obtain rfl : j = 2 * k + 1 := by omega
        rw [addR_y, nf_odd, rf_odd]; exact hy
  · by_cases h1 : j < 2 * k
    · rw [addR_old h1]; exact h.base j h1
    · by_cases h2 : j = 2 * k
      · subst h2; rw [addR_x]; exact hBx
      · obtain rfl : j = 2 * k + 1 := by omega
        rw [addR_y]; exact hBy
  · by_cases h1 : i < 2 * k
    · rw [addR_old h1] at he
      by_cases h2 : j < 2 * k
      · rw [addR_old h2] at he; exact h.inj i j h1 h2 he
      · by_cases h3 : j = 2 * k
        · subst h3; rw [addR_x] at he; exact absurd he (hnew i h1).1
        · obtain rfl : j = 2 * k + 1 := by omega
          rw [addR_y] at he; exact absurd he (hnew i h1).2
    · by_cases h2 : j < 2 * k
      · rw [addR_old h2] at he
        by_cases h3 : i = 2 * k
        · subst h3; rw [addR_x] at he; exact absurd he.symm (hnew j h2).1
        · obtain rfl : i = 2 * k + 1 := by omega
          rw [addR_y] at he; exact absurd he.symm (hnew j h2).2
      · by_cases h3 : i = 2 * k <;> by_cases h4 : j = 2 * k
        · omega
        · obtain rfl : j = 2 * k + 1 := by omega
          subst h3; rw [addR_x, addR_y] at he; exact absurd he hxy
        · obtain rfl : i = 2 * k + 1 := by omega
          subst h4; rw [addR_x, addR_y] at he; exact absurd he.symm hxy
        · omega

theorem rooms_list {P : Nat → Pr} {R : Nat → Nat} {k x y : Nat} :
    (List.range (2 * k)).map (roomV P R) ++ [.slice (some ⟨x, 0, none⟩) ((P k).ni + 8) ((P k).ni + 8), .slice (some ⟨y, 0, none⟩) ((P k).ne + 8) ((P k).ne + 8)] = (List.range (2 * (k + 1))).map (roomV P (addR R k x y)) := by
  have e : 2 * (k + 1) = 2 * k + 1 + 1 := by omega
  rw [e, List.range_succ, List.range_succ, List.map_append, List.map_append]
  have h1 : (List.range (2 * k)).map (roomV P R) = (List.range (2 * k)).map (roomV P (addR R k x y)) := by
    apply List.map_congr_left
    intro j hj
    simp only [List.mem_range] at hj
    simp [roomV, addR_old hj]
  rw [h1]
  simp [roomV, addR_x, addR_y, nf_even, nf_odd]

theorem allC_old {P : Nat → Pr} {R : Nat → Nat} {n k x y i : Nat} (hi : i < k) : allC P (addR R k x y) n i = allC P R n i := by
  unfold allC newP
  rw [addR_old (show 2 * i < 2 * k by omega), addR_old (show 2 * i + 1 < 2 * k by omega)]

/-- The first loop's state. -/
structure L1 (w1 wr : World) (G n k : Nat) (P : Nat → Pr) (R : Nat → Nat) (v : Value) : Prop where
  all : AllRow wr G n 0 k (allC P R n)
  rooms : Rooms wr (G + 1) P R 0 (2 * min k n)
  own : wr.ownsRow (G + 1) 31 1 v (2 * min k n) ((List.range (2 * min k n)).map (roomV P R))
  below : Below G w1 wr

theorem L1.start {w1 : World} {G n : Nat} {P : Nat → Pr} {R : Nat → Nat} {MK : Array Value} (hG : w1.heap.size = G) (hs : MK.size = (n + 8) * 7) : L1 w1 (w1.alloc (.cells MK 34)) G n 0 P R (.slice none 0 0) := by
  subst hG
  refine ⟨⟨MK, heap_alloc_new _ _, hs, fun i _ hi => by omega⟩, ⟨fun j _ hj => by simp at hj, fun j hj => by simp at hj, fun i j hi => by simp at hi⟩, ?_, (Below.refl _ _).alloc (Nat.le_refl _) _⟩
  simp only [Nat.zero_min, Nat.mul_zero, List.range_zero, List.map_nil]
  exact World.ownsRow_nil _ _ _ _

theorem L1.stepOwn {w1 wr : World} {G n k : Nat} {P : Nat → Pr} {R : Nat → Nat} {v : Value} (h : L1 w1 wr G n k P R v) (hk : n ≤ k) (hk8 : k < n + 8) :
    L1 w1 (((((((wr.setCell ⟨G, k * 7, none⟩ (.int .i64 77)).setCell ⟨G, k * 7 + 1, none⟩ (.int .i64 78)).setCell ⟨G, k * 7 + 2, none⟩ (.int .i64 79)).setCell ⟨G, k * 7 + 3, none⟩ (.int .i64 80)).setCell ⟨G, k * 7 + 4, none⟩ (.int .i64 81)).setCell ⟨G, k * 7 + 5, none⟩ (.slice none 0 0)).setCell ⟨G, k * 7 + 6, none⟩ (.slice none 0 0)) G n (k + 1) P R v := by
  have hl := fun i => allC_length P R n i
  have hm : min (k + 1) n = min k n := by omega
  refine ⟨?_, ?_, ?_, ?_⟩
  · refine AllRow.grow ?_ (fun j u hu => ?_)
    · exact ((((((h.all.setOut hl k 0 (by omega) (by omega) _).setOut hl k 1 (by omega) (by omega) _).setOut hl k 2 (by omega) (by omega) _).setOut hl k 3 (by omega) (by omega) _).setOut hl k 4 (by omega) (by omega) _).setOut hl k 5 (by omega) (by omega) _).setOut hl k 6 (by omega) (by omega) _
    · have he : allC P R n k = ownCells := by unfold allC; rw [if_neg (by omega)]
      rw [he] at hu
      exact seven (fun j hj => h.all.cellSome _ (by omega)) _ _ _ _ _ _ _ j u hu
  · rw [hm]
    refine h.rooms.same fun j h1 h2 => ?_
    have := h.rooms.base j h2
    rw [heap_setCell_other _ _ _ _ (by simp <;> omega), heap_setCell_other _ _ _ _ (by simp <;> omega), heap_setCell_other _ _ _ _ (by simp <;> omega), heap_setCell_other _ _ _ _ (by simp <;> omega), heap_setCell_other _ _ _ _ (by simp <;> omega), heap_setCell_other _ _ _ _ (by simp <;> omega), heap_setCell_other _ _ _ _ (by simp <;> omega)]
  · rw [hm]
    exact ownsRow_setCell_below (ownsRow_setCell_below (ownsRow_setCell_below (ownsRow_setCell_below (ownsRow_setCell_below (ownsRow_setCell_below (ownsRow_setCell_below h.own (by simp) _) (by simp) _) (by simp) _) (by simp) _) (by simp) _) (by simp) _) (by simp) _
  · exact ((((((h.below.setCell (by simp) _).setCell (by simp) _).setCell (by simp) _).setCell (by simp) _).setCell (by simp) _).setCell (by simp) _).setCell (by simp) _

/-- Behind the two rooms and the append. -/
structure L1mid (w1 w5 : World) (G n k : Nat) (P : Nat → Pr) (R : Nat → Nat) (x y : Nat) (v : Value) : Prop where
  all : AllRow w5 G n 0 k (allC P R n)
  rooms : Rooms w5 (G + 1) P (addR R k x y) 0 (2 * (k + 1))
  own : w5.ownsRow (G + 1) 31 1 v (2 * (k + 1)) ((List.range (2 * (k + 1))).map (roomV P (addR R k x y)))
  below : Below G w1 w5

theorem L1.mid {w1 wr w2 w3 w5 : World} {G n k : Nat} {P : Nat → Pr} {R : Nat → Nat} {v v' : Value} {o : Obj} (h : L1 w1 wr G n k P R v) (hk : k < n) (hG : G < wr.heap.size)
    (hrx : RuleRow w2 wr.heap.size ((P k).ni + 8) ((P k).ni + 8) (roomR (P k).ni (P k).ir)) (hB2 : Below wr.heap.size wr w2)
    (hry : RuleRow w3 w2.heap.size ((P k).ne + 8) ((P k).ne + 8) (roomR (P k).ne (P k).er)) (hB3 : Below w2.heap.size w2 w3)
    (hown : w5.ownsRow (G + 1) 31 1 v' (2 * min k n + 2) ((List.range (2 * min k n)).map (roomV P R) ++ [.slice (some ⟨wr.heap.size, 0, none⟩) ((P k).ni + 8) ((P k).ni + 8), .slice (some ⟨w2.heap.size, 0, none⟩) ((P k).ne + 8) ((P k).ne + 8)]))
    (hg : (w3.alloc o).grownBy w5 v.ownBlock) : L1mid w1 w5 G n k P R wr.heap.size w2.heap.size v' := by
  have hm : min k n = k := by omega
  have hx := hrx.lt
  have hy := hry.lt
  have hB34 : Below w3.heap.size w3 (w3.alloc o) := (Below.refl _ _).alloc (Nat.le_refl _) _
  have hB4 : Below wr.heap.size wr (w3.alloc o) := (hB2.trans (hB3.mono hB2.size)).trans (hB34.mono (by omega))
  have hown4 : (w3.alloc o).ownsRow (G + 1) 31 1 v (2 * min k n) ((List.range (2 * min k n)).map (roomV P R)) := ownsRow_below h.own hB4
  have hr0 := h.rooms
  rw [hm] at hr0 hown
  refine ⟨?_, ?_, ?_, ?_⟩
  · exact (h.all.same (hB4.block _ hG)).appended hown4 hg
  · refine Rooms.appended (Rooms.add (hr0.below hB4 (Nat.le_refl _)) ((hrx.below hB3 hx).below hB34 (by omega)) (hry.below hB34 hy) (by omega) (by have := hB2.size; omega) (by omega) (fun j hj => ?_)) hown4 hg
    have h1 := (hr0.row j (Nat.zero_le _) hj).lt
    exact ⟨by omega, by omega⟩
  · rw [rooms_list] at hown
    exact hown
  · refine (h.below.trans (hB4.mono (by omega))).grown hg (by have := hB4.size; omega) (fun j hj => ?_)
    have := (hown4.lt j hj).1; omega

theorem L1mid.fin {w1 w5 : World} {G n k x y : Nat} {P : Nat → Pr} {R : Nat → Nat} {v : Value} (h : L1mid w1 w5 G n k P R x y v) (hk : k < n) :
    L1 w1 (((((((((w5.setCell ⟨G, k * 7, none⟩ (.int .i64 (P k).au)).setCell ⟨G, k * 7 + 1, none⟩ (.int .i64 (P k).hold)).setCell ⟨G, k * 7 + 2, none⟩ (.int .i64 (P k).lim)).setCell ⟨G, k * 7 + 3, none⟩ (.int .i64 (P k).pref)).setCell ⟨G, k * 7 + 4, none⟩ (.int .i64 (P k).wait)).setCell ⟨G, k * 7 + 5, none⟩ (P k).im).setCell ⟨G, k * 7 + 6, none⟩ (P k).ex).setCell ⟨G, k * 7 + 5, none⟩ (.slice (some ⟨x, 0, none⟩) (P k).ni ((P k).ni + 8))).setCell ⟨G, k * 7 + 6, none⟩ (.slice (some ⟨y, 0, none⟩) (P k).ne ((P k).ne + 8))) G n (k + 1) P (addR R k x y) v := by
  have hl := fun i => allC_length P R n i
  have hm : min (k + 1) n = k + 1 := by omega
  refine ⟨?_, ?_, ?_, ?_⟩
  · refine AllRow.grow (AllRow.congr (c := allC P R n) ?_ (fun i _ hi => allC_old hi)) (fun j u hu => ?_)
    · exact ((((((((h.all.setOut hl k 0 (by omega) (by omega) _).setOut hl k 1 (by omega) (by omega) _).setOut hl k 2 (by omega) (by omega) _).setOut hl k 3 (by omega) (by omega) _).setOut hl k 4 (by omega) (by omega) _).setOut hl k 5 (by omega) (by omega) _).setOut hl k 6 (by omega) (by omega) _).setOut hl k 5 (by omega) (by omega) _).setOut hl k 6 (by omega) (by omega) _
    · have he : allC P (addR R k x y) n k = [.int .i64 (P k).au, .int .i64 (P k).hold, .int .i64 (P k).lim, .int .i64 (P k).pref, .int .i64 (P k).wait, .slice (some ⟨x, 0, none⟩) (P k).ni ((P k).ni + 8), .slice (some ⟨y, 0, none⟩) (P k).ne ((P k).ne + 8)] := by
        unfold allC newP; rw [if_pos hk, addR_x, addR_y]; rfl
      rw [he] at hu
      exact nine (fun j hj => h.all.cellSome _ (by omega)) _ _ _ _ _ _ _ _ _ j u hu
  · rw [hm]
    refine h.rooms.same fun j h1 h2 => ?_
    have := h.rooms.base j h2
    rw [heap_setCell_other _ _ _ _ (by simp <;> omega), heap_setCell_other _ _ _ _ (by simp <;> omega), heap_setCell_other _ _ _ _ (by simp <;> omega), heap_setCell_other _ _ _ _ (by simp <;> omega), heap_setCell_other _ _ _ _ (by simp <;> omega), heap_setCell_other _ _ _ _ (by simp <;> omega), heap_setCell_other _ _ _ _ (by simp <;> omega), heap_setCell_other _ _ _ _ (by simp <;> omega), heap_setCell_other _ _ _ _ (by simp <;> omega)]
  · rw [hm]
    exact ownsRow_setCell_below (ownsRow_setCell_below (ownsRow_setCell_below (ownsRow_setCell_below (ownsRow_setCell_below (ownsRow_setCell_below (ownsRow_setCell_below (ownsRow_setCell_below (ownsRow_setCell_below h.own (by simp) _) (by simp) _) (by simp) _) (by simp) _) (by simp) _) (by simp) _) (by simp) _) (by simp) _) (by simp) _
  · exact ((((((((h.below.setCell (by simp) _).setCell (by simp) _).setCell (by simp) _).setCell (by simp) _).setCell (by simp) _).setCell (by simp) _).setCell (by simp) _).setCell (by simp) _).setCell (by simp) _

theorem firstBad_new (P : Nat → Pr) (R : Nat → Nat) : ∀ (m k : Nat), firstBad (newP P R) k m = firstBad P k m := by
  intro m
  induction m with
  | zero => intro k; rfl
  | succ m ih => intro k; simp only [firstBad]; rw [ih]; rfl

theorem faultOf_new (au id : Int) (n : Nat) (P : Nat → Pr) (R : Nat → Nat) : faultOf au id n (newP P R) = faultOf au id n P := by
  unfold faultOf; rw [firstBad_new]

theorem RuleRow.rs {w : World} {g n : Nat} {r : Nat → Rl} (h : RuleRow w g (n + 8) (n + 8) (roomR n r)) (hb : n ≤ 4398046511104) (ha : ∀ i < n, 0 ≤ (r i).a ∧ (r i).a < 4294967296) : RsAt w (.slice (some ⟨g, 0, none⟩) n (n + 8)) n r := by
  refine ⟨⟨_, _, rfl, by omega, by unfold maxLen; omega, fun _ => ⟨g, 0, rfl, fun i hi j u hu => ?_⟩⟩, ha⟩
  have hu' : ((roomR n r i).cells)[j]? = some u := by rw [roomR_lt hi]; exact hu
  rw [Nat.zero_add]
  exact h.cell i (by omega) j u hu'

theorem L1.ps {w w1 wr : World} {G n : Nat} {P : Nat → Pr} {R : Nat → Nat} {v v0 : Value} (h : L1 w1 wr G n (n + 8) P R v) (hP : PsAt w v0 n P) (hn : n ≤ 4398046511104) (hb : ∀ i < n, (P i).ni ≤ 4398046511104 ∧ (P i).ne ≤ 4398046511104) :
    PsAt wr (.slice (some ⟨G, 0, none⟩) n (n + 8)) n (newP P R) := by
  have hm : min (n + 8) n = n := by omega
  have hr := h.rooms
  rw [hm] at hr
  refine ⟨⟨_, _, rfl, by omega, by unfold maxLen; omega, fun _ => ⟨G, 0, rfl, fun i hi j u hu => ?_⟩⟩, fun i hi => ⟨?_, ?_⟩⟩
  · rw [Nat.zero_add]
    have he : allC P R n i = (newP P R i).cells := by unfold allC; rw [if_pos hi]
    exact h.all.cell i (Nat.zero_le _) (by omega) j u (by rw [he]; exact hu)
  · have h1 := hr.row (2 * i) (Nat.zero_le _) (by omega)
    rw [nf_even, rf_even] at h1
    exact h1.rs (hb i hi).1 (hP.2 i hi).1.2
  · have h1 := hr.row (2 * i + 1) (Nat.zero_le _) (by omega)
    rw [nf_odd, rf_odd] at h1
    exact h1.rs (hb i hi).2 (hP.2 i hi).2.2

theorem L1.go {w1 wr w' : World} {G n k : Nat} {P : Nat → Pr} {R : Nat → Nat} {v : Value} (h : L1 w1 wr G n k P R v) (hB : Below wr.heap.size wr w') : L1 w1 w' G n k P R v :=
  ⟨h.all.same (hB.block _ h.all.lt), h.rooms.below hB (Nat.le_refl _), ownsRow_below h.own hB, h.below.trans (hB.mono (by have := h.all.lt; omega))⟩

/-- The last loop's state: peers from k on, rooms from lo on are as they were. -/
structure L3 (w1 wr : World) (G n k lo : Nat) (P : Nat → Pr) (R : Nat → Nat) (v : Value) : Prop where
  all : AllRow wr G n k (n + 8) (allC P R n)
  rooms : Rooms wr (G + 1) P R lo (2 * n)
  own : wr.ownsRow (G + 1) 31 1 v (2 * n) ((List.range (2 * n)).map (roomV P R))
  below : Below G w1 wr

theorem L1.three {w1 wr : World} {G n : Nat} {P : Nat → Pr} {R : Nat → Nat} {v : Value} (h : L1 w1 wr G n (n + 8) P R v) : L3 w1 wr G n 0 0 P R v := by
  have hm : min (n + 8) n = n := by omega
  have h2 := h.rooms
  have h3 := h.own
  rw [hm] at h2 h3
  exact ⟨h.all, h2, h3, h.below⟩

theorem L3.go {w1 wr w' : World} {G n k lo : Nat} {P : Nat → Pr} {R : Nat → Nat} {v : Value} (h : L3 w1 wr G n k lo P R v) (hB : Below wr.heap.size wr w') : L3 w1 w' G n k lo P R v :=
  ⟨h.all.same (hB.block _ h.all.lt), h.rooms.below hB (Nat.le_refl _), ownsRow_below h.own hB, h.below.trans (hB.mono (by have := h.all.lt; omega))⟩

theorem L3.stilled {w1 wr w' : World} {G n k lo : Nat} {P : Nat → Pr} {R : Nat → Nat} {v : Value} (h : L3 w1 wr G n k lo P R v) (hlo : lo < 2 * n) (hg : wr.grownBy w' (some (R lo))) : L3 w1 w' G n k (lo + 1) P R v := by
  have hb := h.rooms.base lo hlo
  refine ⟨h.all.same (hg.block _ h.all.lt (by simp <;> omega)), ?_, ?_, ?_⟩
  · refine ⟨fun j h1 h2 => ?_, h.rooms.base, h.rooms.inj⟩
    exact (h.rooms.row j (by omega) h2).grown hg (by simp; intro he; have := h.rooms.inj j lo h2 hlo he; omega)
  · refine h.own.kept hg ?_
    right
    intro he
    obtain ⟨cur, e1, _⟩ := h.rooms.row lo (Nat.le_refl _) hlo
    rcases h.own.2 with ⟨hv, _⟩ | ⟨g, cap, cur', hv, _, h3, _⟩
    · rw [hv] at he; simp [Value.ownBlock] at he
    · rw [hv] at he; simp [Value.ownBlock] at he
      rw [he, e1] at h3
      simp at h3
  · exact h.below.grown hg (by have := h.all.lt; omega) (fun j hj => by simp at hj; omega)

theorem L3.put {w1 wr : World} {G n k lo : Nat} {P : Nat → Pr} {R : Nat → Nat} {v : Value} (h : L3 w1 wr G n k lo P R v) (hk : k < n) (v0 v1 v2 v3 v4 v5 v6 : Value) :
    L3 w1 (((((((wr.setCell ⟨G, k * 7, none⟩ v0).setCell ⟨G, k * 7 + 1, none⟩ v1).setCell ⟨G, k * 7 + 2, none⟩ v2).setCell ⟨G, k * 7 + 3, none⟩ v3).setCell ⟨G, k * 7 + 4, none⟩ v4).setCell ⟨G, k * 7 + 5, none⟩ v5).setCell ⟨G, k * 7 + 6, none⟩ v6) G n (k + 1) lo P R v := by
  have hl := fun i => allC_length P R n i
  refine ⟨?_, ?_, ?_, ?_⟩
  · have h0 := h.all.drop (Nat.le_succ k)
    exact ((((((h0.setOut hl k 0 (by omega) (by omega) _).setOut hl k 1 (by omega) (by omega) _).setOut hl k 2 (by omega) (by omega) _).setOut hl k 3 (by omega) (by omega) _).setOut hl k 4 (by omega) (by omega) _).setOut hl k 5 (by omega) (by omega) _).setOut hl k 6 (by omega) (by omega) _
  · refine h.rooms.same fun j h1 h2 => ?_
    have := h.rooms.base j h2
    rw [heap_setCell_other _ _ _ _ (by simp <;> omega), heap_setCell_other _ _ _ _ (by simp <;> omega), heap_setCell_other _ _ _ _ (by simp <;> omega), heap_setCell_other _ _ _ _ (by simp <;> omega), heap_setCell_other _ _ _ _ (by simp <;> omega), heap_setCell_other _ _ _ _ (by simp <;> omega), heap_setCell_other _ _ _ _ (by simp <;> omega)]
  · exact ownsRow_setCell_below (ownsRow_setCell_below (ownsRow_setCell_below (ownsRow_setCell_below (ownsRow_setCell_below (ownsRow_setCell_below (ownsRow_setCell_below h.own (by simp) _) (by simp) _) (by simp) _) (by simp) _) (by simp) _) (by simp) _) (by simp) _
  · exact ((((((h.below.setCell (by simp) _).setCell (by simp) _).setCell (by simp) _).setCell (by simp) _).setCell (by simp) _).setCell (by simp) _).setCell (by simp) _

/-- The rooms' list has them at their places. -/
theorem L3.room {w1 wr : World} {G n k lo : Nat} {P : Nat → Pr} {R : Nat → Nat} {va : Option Addr} {vcap : Nat} (h : L3 w1 wr G n k lo P R (.slice va (2 * n) vcap)) (hn : 0 < n) :
    ∃ rb, va = some ⟨rb, 0, none⟩ ∧ G + 1 ≤ rb ∧ rb < wr.heap.size ∧ 2 * n ≤ vcap ∧ ∀ j < 2 * n, wr.cell? ⟨rb, j, none⟩ = some (roomV P R j) := by
  rcases h.own.2 with ⟨hv, h0⟩ | ⟨g, cap, cur, hv, hb, hc, hcap, _⟩
  · omega
  · simp at hv
    obtain ⟨rfl, rfl⟩ := hv
    refine ⟨g, rfl, hb, (Array.getElem?_eq_some_iff.1 hc).1, hcap, fun j hj => ?_⟩
    rw [h.own.cellAt j (by omega)]
    simp [hj]

theorem L3.peer {w1 wr : World} {G n k lo : Nat} {P : Nat → Pr} {R : Nat → Nat} {v : Value} (h : L3 w1 wr G n k lo P R v) (hk : k < n) :
    wr.cell? ⟨G, k * 7, none⟩ = some (.int .i64 (P k).au) ∧ wr.cell? ⟨G, k * 7 + 1, none⟩ = some (.int .i64 (P k).hold) ∧ wr.cell? ⟨G, k * 7 + 2, none⟩ = some (.int .i64 (P k).lim) ∧
      wr.cell? ⟨G, k * 7 + 3, none⟩ = some (.int .i64 (P k).pref) ∧ wr.cell? ⟨G, k * 7 + 4, none⟩ = some (.int .i64 (P k).wait) ∧
      wr.cell? ⟨G, k * 7 + 5, none⟩ = some (.slice (some ⟨R (2 * k), 0, none⟩) (P k).ni ((P k).ni + 8)) ∧ wr.cell? ⟨G, k * 7 + 6, none⟩ = some (.slice (some ⟨R (2 * k + 1), 0, none⟩) (P k).ne ((P k).ne + 8)) := by
  have he : allC P R n k = (newP P R k).cells := by unfold allC; rw [if_pos hk]
  have hs : ∀ j u, ((newP P R k).cells)[j]? = some u → wr.cell? ⟨G, k * 7 + j, none⟩ = some u := fun j u hu => h.all.cell k (Nat.le_refl _) (by omega) j u (by rw [he]; exact hu)
  exact ⟨hs 0 _ rfl, hs 1 _ rfl, hs 2 _ rfl, hs 3 _ rfl, hs 4 _ rfl, hs 5 _ rfl, hs 6 _ rfl⟩

theorem L1.own7 {w1 wr : World} {G n m : Nat} {P : Nat → Pr} {R : Nat → Nat} {v : Value} (h : L1 w1 wr G n (n + 8) P R v) (h1 : n ≤ m) (h2 : m < n + 8) (j : Nat) (u : Value) (hu : ownCells[j]? = some u) : wr.cell? ⟨G, m * 7 + j, none⟩ = some u :=
  h.all.cell m (Nat.zero_le _) h2 j u (by unfold allC; rw [if_neg (by omega)]; exact hu)

end Go.Proofs.Ytmgcndpcbpkjaaa
