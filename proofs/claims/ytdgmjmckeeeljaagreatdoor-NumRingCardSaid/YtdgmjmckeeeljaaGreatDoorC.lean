/- Contracts of num: sums. No condition but that the slices read as digits. -/
import Derived.Test.YtdgmjmckeeeljaaGreatDoorB
namespace Go.Proofs.YtdgmjmckeeeljaaGreatDoor
open Go.RowKit

/-- What holds at the head of each round of plus. -/
def PlusRel (V U n g : Nat) (w : World) (c i : Value) (wr : World) : Prop :=
  ∃ k cv zs, k ≤ n ∧ i = .int .i64 (k : Nat) ∧ c = .int .u64 (cv : Nat) ∧ cv ≤ 1 ∧ zs.length = n ∧ Row wr g zs ∧ Below g w wr ∧ Bd zs ∧
    val (zs.take k) + 4294967296 ^ k * cv = V % 4294967296 ^ k + U % 4294967296 ^ k

theorem plus_start (V U n : Nat) (w w1 : World) (hr : Row w1 w.heap.size (List.replicate n 0)) (hb : Below w.heap.size w w1) : PlusRel V U n w.heap.size w (.int .u64 0) (.int .i64 0) w1 :=
  ⟨0, 0, _, Nat.zero_le _, rfl, rfl, by omega, by simp, hr, hb, bd_zeros n, by simp [val, Nat.mod_one]⟩

theorem plus_step {V U n g k cv x y : Nat} {zs : List Nat} {w wr : World} (hk : k < n) (hc : cv ≤ 1) (hz : zs.length = n) (hr : Row wr g zs) (hb : Below g w wr) (hd : Bd zs)
    (hv : val (zs.take k) + 4294967296 ^ k * cv = V % 4294967296 ^ k + U % 4294967296 ^ k) (hx : x = V / 4294967296 ^ k % 4294967296) (hy : y = U / 4294967296 ^ k % 4294967296) :
    PlusRel V U n g w (.int .u64 (((cv : Int) + (x + y)) / 4294967296)) (.int .i64 ((k : Int) + 1)) (wr.setCell ⟨g, k, none⟩ (.int .u32 (((cv : Int) + (x + y)) % 4294967296))) := by
  refine ⟨k + 1, (cv + (x + y)) / 4294967296, zs.set k ((cv + (x + y)) % 4294967296), hk, rfl, by congr 1, ?_, by simpa using hz, hr.set' _ _ (by omega), hb.setCell (by simp) _, hd.set _ (by omega), ?_⟩
  · have : x < 4294967296 := by rw [hx]; exact Nat.mod_lt _ (by omega)
    have : y < 4294967296 := by rw [hy]; exact Nat.mod_lt _ (by omega)
    omega
  · rw [val_take_set (by omega), mod_step V, mod_step U, ← hx, ← hy, Nat.pow_succ]
    exact sum_step hv x y

theorem plus_end_core {V U Z p q cv : Nat} (hq : q = p * 4294967296) (hV : V < p) (hU : U < p) (hv : Z + q * cv = V % q + U % q) : Z = V + U := by
  rw [Nat.mod_eq_of_lt (by omega), Nat.mod_eq_of_lt (by omega)] at hv
  cases cv with
  | zero => omega
  | succ c =>
    exfalso
    rw [Nat.mul_succ] at hv
    omega

theorem plus_end {V U n la lb : Nat} {zs : List Nat} (hz : zs.length = n + 1) {cv : Nat} (hV : V < 4294967296 ^ la) (hU : U < 4294967296 ^ lb) (h1 : la ≤ n) (h2 : lb ≤ n)
    (hv : val (zs.take (n + 1)) + 4294967296 ^ (n + 1) * cv = V % 4294967296 ^ (n + 1) + U % 4294967296 ^ (n + 1)) : val zs = V + U := by
  rw [List.take_of_length_le (Nat.le_of_eq hz)] at hv
  exact plus_end_core (Nat.pow_succ 4294967296 n) (Nat.lt_of_lt_of_le hV (Nat.pow_le_pow_right (by decide) h1)) (Nat.lt_of_lt_of_le hU (Nat.pow_le_pow_right (by decide) h2)) hv

set_option maxHeartbeats 1000000 in
theorem plus_any {w : World} {va vb : Value} {xs ys : List Nat} (ha : Sl w va xs) (hb : Sl w vb ys) (hla : 4 * xs.length ≤ 140737488351232) (hlb : 4 * ys.length ≤ 140737488351232) :
    Calls Tryz.prog 45 #[va, vb] w (NewDigs w (val xs + val ys)) := by
  obtain ⟨aa, ca, rfl⟩ := ha.mk'
  obtain ⟨ab, cb, rfl⟩ := hb.mk'
  have hV := val_lt ha.bd
  have hU := val_lt hb.bd
  obtain ⟨la, hla'⟩ : ∃ la : Nat, la = xs.length := ⟨_, rfl⟩
  obtain ⟨lb, hlb'⟩ : ∃ lb : Nat, lb = ys.length := ⟨_, rfl⟩
  rw [← hla'] at hla hV ha ⊢
  rw [← hlb'] at hlb hU hb ⊢
  clear hla' hlb'
  have HV := Lib.hid hV
  have HU := Lib.hid hU
  clear hV hU
  obtain ⟨n, hn1, hn2, hn3⟩ : ∃ n, la ≤ n ∧ lb ≤ n ∧ (n = la ∨ (n = lb ∧ la < n)) := ⟨max la lb, by omega, by omega, by omega⟩
  rcases hn3 with rfl | ⟨rfl, hn4⟩
  all_goals
    go_enter Tryz.func45, Tryz.ntmps45
    go_wp2_with (at_make; go_must (refine wpList_make_row _ rfl _ _ rfl _ _ _ _ (n + 1) rfl rfl (by omega) (by omega) (by omega) ?_; intro w1 hrow hbel))
    go_loopw [7, 19] (fun c i wr => PlusRel (val xs) (val ys) (n + 1) w.heap.size w c i wr) (fun _ i _ => n + 1 - (intOf i).toNat)
    case atStart => exact plus_start _ _ _ _ _ hrow hbel
    case round =>
      obtain ⟨k, cv, zs, hk, rfl, rfl, hcv, hz, hr, hbl, hd, hv⟩ := hrel
      have HVV := Lib.hid hv
      have HZ := Lib.hid hz
      clear hv
      by_cases hlt : k < n + 1
      · have dA := digit_any (ha.below hbl) k
        have dB := digit_any (hb.below hbl) k
        have ex := dg_nat ha.bd k
        have ey := dg_nat hb.bd k
        have lx := dg_lt ha.bd k
        have ly := dg_lt hb.bd k
        have hc := hr.cell k (by omega)
        have hf := hr.free k
        obtain ⟨x, hx⟩ : ∃ x, x = dg xs k := ⟨_, rfl⟩
        obtain ⟨y, hy⟩ : ∃ y, y = dg ys k := ⟨_, rfl⟩
        rw [← hx] at dA ex lx
        rw [← hy] at dB ey ly
        have EX := Lib.hid ex
        have EY := Lib.hid ey
        clear hx hy ex ey hz
        go_wp2_with (first | (go_at_call 78; (with_reducible refine dA.mono ?_); rintro e w' ⟨rfl, rfl⟩) | (go_at_call 78; (with_reducible refine dB.mono ?_); rintro e w' ⟨rfl, rfl⟩))
        go_roundw
        case rel => exact plus_step hlt hcv HZ.out hr hbl hd HVV.out EX.out EY.out
        case measure => simp [intOf]; omega
      · obtain rfl : k = n + 1 := by omega
        have hend := plus_end hz HV.out HU.out (by omega) (by omega) HVV.out
        have hsw := hr.sw' (Nat.le_refl _) hd hz (by unfold maxLen; omega)
        have ht := trim_any _ _ _ hsw.sl
        have hu := hsw.trim
        rw [hend] at ht hu
        have HE := Lib.hid hu
        clear hz hend hsw hu
        go_wp2_with (go_at_call 76; refine ht.mono ?_; rintro e w' ⟨rfl, rfl⟩)
        go_ret
        exact ⟨_, rfl, HE.out, hbl⟩

end Go.Proofs.YtdgmjmckeeeljaaGreatDoor
