/- Trees of digests. -/
import Derived.Test.YtkkbjkjmhjgaiaaM
namespace Go.Proofs.Ytkkbjkjmhjgaiaa

abbrev Dg := List UInt8
def leafD (s : List UInt8) : Dg := dig (1 :: s)
def nodeD (a b : Dg) : Dg := dig (2 :: (a ++ b))
def noneD : Dg := dig [3]

/-- The least power of two, of those from w on, that is not less than n. -/
def widFrom (w n : Nat) : Nat := if h : 0 < w ∧ w < n then widFrom (2 * w) n else w
termination_by n - w
decreasing_by omega

def wid (n : Nat) : Nat := widFrom 1 n

def leavesD (l : List (List UInt8)) : List Dg := l.map leafD ++ List.replicate (wid l.length - l.length) noneD

def halveD : List Dg → List Dg
  | a :: b :: r => nodeD a b :: halveD r
  | _ => []

theorem getD_left {a b : List Dg} {i : Nat} (h : i < a.length) : (a ++ b).getD i [] = a.getD i [] := by
  simp [List.getD, List.getElem?_append_left h]
theorem getD_right {a b : List Dg} {i : Nat} (h : a.length ≤ i) : (a ++ b).getD i [] = b.getD (i - a.length) [] := by
  simp [List.getD, List.getElem?_append_right h]

theorem halveD_len : ∀ l : List Dg, (halveD l).length = l.length / 2
  | [] => rfl
  | [_] => by simp [halveD]
  | a :: b :: r => by simp only [halveD, halveD_len r, List.length_cons]; omega

theorem halveD_get : ∀ (l : List Dg) (k : Nat), k < l.length / 2 → (halveD l).getD k [] = nodeD (l.getD (2 * k) []) (l.getD (2 * k + 1) [])
  | [], k, h => by simp at h
  | [_], k, h => by simp at h
  | a :: b :: r, 0, h => by simp [halveD]
  | a :: b :: r, k + 1, h => by
    have := halveD_get r k (by simp at h; omega)
    simpa [halveD, Nat.mul_add, Nat.mul_succ] using this

theorem halveD_append : ∀ (m : Nat) (a b : List Dg), a.length = 2 * m → halveD (a ++ b) = halveD a ++ halveD b
  | 0, a, b, h => by
    have : a = [] := List.length_eq_zero_iff.1 (by omega)
    subst this; rfl
  | m + 1, a, b, h => by
    match a, h with
    | x :: y :: r, h =>
      show nodeD x y :: halveD (r ++ b) = nodeD x y :: (halveD r ++ halveD b)
      rw [halveD_append m r b (by simp at h; omega)]

/-- The root of a level of 2^k digests. -/
def rootD : Nat → List Dg → Dg
  | 0, l => l.headD []
  | k + 1, l => rootD k (halveD l)

/-- The proof of the element i of a level of 2^k digests. -/
def proofD : Nat → List Dg → Nat → List Dg
  | 0, _, _ => []
  | k + 1, l, i => l.getD (if i % 2 = 0 then i + 1 else i - 1) [] :: proofD k (halveD l) (i / 2)

/-- What a digest at an index and a proof form. -/
def upD : Dg → Nat → List Dg → Dg
  | d, _, [] => d
  | d, i, s :: r => upD (if i % 2 = 0 then nodeD d s else nodeD s d) (i / 2) r

theorem proofD_len : ∀ (k : Nat) (l : List Dg) (i : Nat), (proofD k l i).length = k
  | 0, _, _ => rfl
  | k + 1, l, i => by simp [proofD, proofD_len k]

theorem upD_root : ∀ (k : Nat) (l : List Dg) (i : Nat), l.length = 2 ^ k → i < 2 ^ k → upD (l.getD i []) i (proofD k l i) = rootD k l
  | 0, l, i, _, hi => by
    have : i = 0 := by omega
    subst this
    cases l <;> rfl
  | k + 1, l, i, hl, hi => by
    have hp : 2 ^ (k + 1) = 2 * 2 ^ k := by rw [Nat.pow_succ, Nat.mul_comm]
    have ih := upD_root k (halveD l) (i / 2) (by rw [halveD_len]; omega) (by omega)
    show upD _ (i / 2) (proofD k (halveD l) (i / 2)) = rootD k (halveD l)
    rw [← ih, halveD_get l (i / 2) (by omega)]
    by_cases h : i % 2 = 0
    · rw [if_pos h, if_pos h, show 2 * (i / 2) = i by omega]
    · rw [if_neg h, if_neg h, show 2 * (i / 2) = i - 1 by omega, show i - 1 + 1 = i by omega]

theorem rootD_append : ∀ (k : Nat) (a b : List Dg), a.length = 2 ^ k → b.length = 2 ^ k → rootD (k + 1) (a ++ b) = nodeD (rootD k a) (rootD k b)
  | 0, [x], [y], _, _ => rfl
  | k + 1, a, b, ha, hb => by
    have hp : 2 ^ (k + 1) = 2 * 2 ^ k := by rw [Nat.pow_succ, Nat.mul_comm]
    have ih := rootD_append k (halveD a) (halveD b) (by rw [halveD_len]; omega) (by rw [halveD_len]; omega)
    show rootD (k + 1) (halveD (a ++ b)) = nodeD (rootD k (halveD a)) (rootD k (halveD b))
    rw [halveD_append (2 ^ k) a b (by omega), ih]

theorem proofD_low : ∀ (k : Nat) (a b : List Dg) (i : Nat), a.length = 2 ^ k → b.length = 2 ^ k → i < 2 ^ k → proofD (k + 1) (a ++ b) i = proofD k a i ++ [rootD k b]
  | 0, [x], [y], 0, _, _, _ => rfl
  | k + 1, a, b, i, ha, hb, hi => by
    have hp : 2 ^ (k + 1) = 2 * 2 ^ k := by rw [Nat.pow_succ, Nat.mul_comm]
    have ih := proofD_low k (halveD a) (halveD b) (i / 2) (by rw [halveD_len]; omega) (by rw [halveD_len]; omega) (by omega)
    show (a ++ b).getD _ [] :: proofD (k + 1) (halveD (a ++ b)) (i / 2) = (a.getD _ [] :: proofD k (halveD a) (i / 2)) ++ [rootD k (halveD b)]
    rw [halveD_append (2 ^ k) a b (by omega), ih]
    congr 1
    by_cases h : i % 2 = 0
    · rw [if_pos h, getD_left (by omega)]
    · rw [if_neg h, getD_left (by omega)]

theorem proofD_high : ∀ (k : Nat) (a b : List Dg) (i : Nat), a.length = 2 ^ k → b.length = 2 ^ k → i < 2 ^ k → proofD (k + 1) (a ++ b) (2 ^ k + i) = proofD k b i ++ [rootD k a]
  | 0, [x], [y], 0, _, _, _ => rfl
  | k + 1, a, b, i, ha, hb, hi => by
    have hp : 2 ^ (k + 1) = 2 * 2 ^ k := by rw [Nat.pow_succ, Nat.mul_comm]
    have ih := proofD_high k (halveD a) (halveD b) (i / 2) (by rw [halveD_len]; omega) (by rw [halveD_len]; omega) (by omega)
    show (a ++ b).getD _ [] :: proofD (k + 1) (halveD (a ++ b)) ((2 ^ (k + 1) + i) / 2) = (b.getD _ [] :: proofD k (halveD b) (i / 2)) ++ [rootD k (halveD a)]
    rw [halveD_append (2 ^ k) a b (by omega), show (2 ^ (k + 1) + i) / 2 = 2 ^ k + i / 2 by omega, ih]
    congr 1
    by_cases h : i % 2 = 0
    · rw [if_pos h, if_pos (by omega), getD_right (by omega)]
      congr 1; omega
    · rw [if_neg h, if_neg (by omega), getD_right (by omega)]
      congr 1; omega

/-- The width is a power of two. -/
theorem widFrom_pow (k w n : Nat) (hw : w = 2 ^ k) : ∃ m, k ≤ m ∧ widFrom w n = 2 ^ m ∧ n ≤ 2 ^ m ∧ (k < m → 2 ^ (m - 1) < n) := by
  have hpos : 0 < w := hw ▸ Nat.two_pow_pos k
  by_cases h : w < n
  · obtain ⟨m, h1, h2, h3, h4⟩ := widFrom_pow (k + 1) (2 * w) n (by rw [hw, Nat.pow_succ, Nat.mul_comm])
    refine ⟨m, by omega, by rw [widFrom, dif_pos ⟨hpos, h⟩]; exact h2, h3, fun _ => ?_⟩
    by_cases hm : k + 1 < m
    · exact h4 hm
    · have : m - 1 = k := by omega
      rw [this, ← hw]; exact h
  · exact ⟨k, Nat.le_refl _, by rw [widFrom, dif_neg (by omega)]; exact hw, by omega, fun h => absurd h (by omega)⟩
termination_by n - w
decreasing_by omega

end Go.Proofs.Ytkkbjkjmhjgaiaa
