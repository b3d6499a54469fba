/- Contracts of num: differences. Condition: what is subtracted is not greater. -/
import Derived.Test.YtdgmjmckeeeljaaGreatDoorC
namespace Go.Proofs.YtdgmjmckeeeljaaGreatDoor
open Go.RowKit

/-- What holds at the head of each round of minus. -/
def MinusRel (V U n g : Nat) (w : World) (c i : Value) (wr : World) : Prop :=
  ∃ k bo zs, k ≤ n ∧ i = .int .i64 (k : Nat) ∧ c = .int .u32 (bo : Nat) ∧ bo ≤ 1 ∧ zs.length = n ∧ Row wr g zs ∧ Below g w wr ∧ Bd zs ∧
    val (zs.take k) + U % 4294967296 ^ k = V % 4294967296 ^ k + 4294967296 ^ k * bo

theorem minus_start (V U n : Nat) (w w1 : World) (hr : Row w1 w.heap.size (List.replicate n 0)) (hb : Below w.heap.size w w1) : MinusRel V U n w.heap.size w (.int .u32 0) (.int .i64 0) w1 :=
  ⟨0, 0, _, Nat.zero_le _, rfl, rfl, by omega, by simp, hr, hb, bd_zeros n, by simp [val, Nat.mod_one]⟩

theorem minus_sum {Z u v p bo x y d bb : Nat} (h : Z + u = v + p * bo) (e : d + y + bo = x + 4294967296 * bb) : Z + p * d + (u + p * y) = v + p * x + p * 4294967296 * bb := by
  have h1 : p * (d + y + bo) = p * (x + 4294967296 * bb) := by rw [e]
  have h2 : p * (d + y + bo) = p * d + p * y + p * bo := by grind
  have h3 : p * (x + 4294967296 * bb) = p * x + p * 4294967296 * bb := by grind
  omega

theorem minus_step {V U n g k bo x y : Nat} {zs : List Nat} {w wr : World} (hk : k < n) (hc : bo ≤ 1) (hz : zs.length = n) (hr : Row wr g zs) (hb : Below g w wr) (hd : Bd zs)
    (hv : val (zs.take k) + U % 4294967296 ^ k = V % 4294967296 ^ k + 4294967296 ^ k * bo) (hx : x = V / 4294967296 ^ k % 4294967296) (hy : y = U / 4294967296 ^ k % 4294967296) :
    MinusRel V U n g w (.int .u32 (sbb x y bo : Nat)) (.int .i64 ((k : Int) + 1)) (wr.setCell ⟨g, k, none⟩ (.int .u32 (sbd x y bo : Nat))) := by
  have lx : x < 4294967296 := by rw [hx]; exact Nat.mod_lt _ (by omega)
  have ly : y < 4294967296 := by rw [hy]; exact Nat.mod_lt _ (by omega)
  obtain ⟨s1, s2, s3⟩ := sb_eq lx ly hc
  refine ⟨k + 1, sbb x y bo, zs.set k (sbd x y bo), hk, rfl, rfl, s3, by simpa using hz, hr.set _ _, hb.setCell (by simp) _, hd.set _ s2, ?_⟩
  rw [val_take_set (by omega), mod_step V, mod_step U, ← hx, ← hy, Nat.pow_succ]
  exact minus_sum hv s1

theorem minus_end_core {V U Z q bo : Nat} (hZ : Z < q) (hV : V < q) (hU : U ≤ V) (hv : Z + U % q = V % q + q * bo) : Z = V - U := by
  rw [Nat.mod_eq_of_lt (by omega), Nat.mod_eq_of_lt (by omega)] at hv
  cases bo with
  | zero => omega
  | succ c =>
    exfalso
    rw [Nat.mul_succ] at hv
    omega

theorem minus_end {V U n : Nat} {zs : List Nat} (hd : Bd zs) (hz : zs.length = n) {bo : Nat} (hV : V < 4294967296 ^ n) (hU : U ≤ V)
    (hv : val (zs.take n) + U % 4294967296 ^ n = V % 4294967296 ^ n + 4294967296 ^ n * bo) : val zs = V - U := by
  rw [List.take_of_length_le (Nat.le_of_eq hz)] at hv
  have := val_lt hd
  rw [hz] at this
  exact minus_end_core this hV hU hv

set_option maxHeartbeats 1000000 in
theorem minus_any {w : World} {va vb : Value} {xs ys : List Nat} (ha : Sl w va xs) (hb : Sl w vb ys) (hla : 4 * xs.length ≤ 140737488351232) (hle : val ys ≤ val xs) :
    Calls Tryz.prog 46 #[va, vb] w (NewDigs w (val xs - val ys)) := by
  obtain ⟨aa, ca, rfl⟩ := ha.mk'
  have hV := val_lt ha.bd
  obtain ⟨n, hn⟩ : ∃ n : Nat, n = xs.length := ⟨_, rfl⟩
  rw [← hn] at hla hV ha ⊢
  have HV := Lib.hid hV
  have HN := Lib.hid hn
  have HLE := Lib.hid hle
  clear hV hn hle
  go_enter Tryz.func46, Tryz.ntmps46
  go_wp2_with (at_make; go_must (refine wpList_make_row _ rfl _ _ rfl _ _ _ _ n rfl rfl (by omega) (by omega) (by omega) ?_; intro w1 hrow hbel))
  go_loopw [6, 14] (fun c i wr => MinusRel (val xs) (val ys) n w.heap.size w c i wr) (fun _ i _ => n - (intOf i).toNat)
  case atStart => exact minus_start _ _ _ _ _ hrow hbel
  case round =>
    obtain ⟨k, cv, zs, hk, rfl, rfl, hcv, hz, hr, hbl, hd, hv⟩ := hrel
    have HVV := Lib.hid hv
    have HZ := Lib.hid hz
    clear hv
    by_cases hlt : k < n
    · obtain ⟨b, off, rfl, hcap, hbs, hcl⟩ := ha.at (by omega)
      have hca := hcl.at hbl hbs k (by rw [← HN.out]; exact hlt)
      have dB := digit_any (hb.below hbl) k
      have ex := val_digit ha.bd k
      have ey := dg_nat hb.bd k
      have ly := dg_lt hb.bd k
      have hc := hr.cell k (by omega)
      have hf := hr.free k
      obtain ⟨x, hx⟩ : ∃ x, x = xs.getD k 0 := ⟨_, rfl⟩
      obtain ⟨y, hy⟩ : ∃ y, y = dg ys k := ⟨_, rfl⟩
      rw [← hx] at hca ex
      rw [← hy] at dB ey ly
      have lx : x < 4294967296 := by rw [ex]; exact Nat.mod_lt _ (by omega)
      have EX := Lib.hid ex
      have EY := Lib.hid ey
      have HCL := Lib.hid hcl
      clear hx hy ex ey hz hcl
      go_wp2_with (first | (go_at_call 78; (with_reducible refine dB.mono ?_); rintro e w' ⟨rfl, rfl⟩) | (go_at_call 79; (refine (sub32_any x y cv _ lx ly hcv).mono ?_); rintro e w' ⟨rfl, rfl⟩))
      go_roundw
      case rel => exact minus_step hlt hcv HZ.out hr hbl hd HVV.out EX.out EY.out
      case measure => simp [intOf]; omega
    · obtain rfl : k = n := by omega
      have hend := minus_end hd hz HV.out HLE.out HVV.out
      have hsw := hr.sw' (Nat.le_refl _) hd hz (by unfold maxLen; omega)
      have ht := trim_any _ _ _ hsw.sl
      have hu := hsw.trim
      rw [hend] at ht hu
      have HE := Lib.hid hu
      clear hz hend hsw hu
      go_wp2_with (go_at_call 76; refine ht.mono ?_; rintro e w' ⟨rfl, rfl⟩)
      go_ret
      exact ⟨_, rfl, HE.out, hbl⟩

end Go.Proofs.YtdgmjmckeeeljaaGreatDoor
