/- Contracts of num: products. No condition but that the slices read as digits. -/
import Derived.Test.YtdgmjmckeeeljaaGreatDoorD
namespace Go.Proofs.YtdgmjmckeeeljaaGreatDoor
open Go.RowKit

/-- What holds at the head of each outer round of times. -/
def TimesRel (V U n m g : Nat) (w : World) (i : Value) (wr : World) : Prop :=
  ∃ k zs, k ≤ n ∧ i = .int .i64 (k : Nat) ∧ zs.length = n + m ∧ Row wr g zs ∧ Below g w wr ∧ Bd zs ∧ val zs = V % 4294967296 ^ k * U

theorem times_start (V U n m : Nat) (w w1 : World) (hr : Row w1 w.heap.size (List.replicate (n + m) 0)) (hb : Below w.heap.size w w1) : TimesRel V U n m w.heap.size w (.int .i64 0) w1 :=
  ⟨0, _, Nat.zero_le _, rfl, by simp, hr, hb, bd_zeros _, by simp [val_zeros, Nat.mod_one]⟩

/-- What holds at the head of each inner round: i digits are done, x is the next one; T is what was there before it. -/
def InnerRel (U x T i n m g : Nat) (w : World) (c jv : Value) (wr : World) : Prop :=
  ∃ j cv zs, j ≤ m ∧ jv = .int .i64 (j : Nat) ∧ c = .int .u64 (cv : Nat) ∧ cv < 4294967296 ∧ zs.length = n + m ∧ Row wr g zs ∧ Below g w wr ∧ Bd zs ∧ zs.getD (i + m) 0 = 0 ∧
    val zs + 4294967296 ^ (i + j) * cv = T + 4294967296 ^ i * (x * (U % 4294967296 ^ j))

theorem inner_start {V U x k n m g : Nat} {zs : List Nat} {w wr : World} (hk : k < n) (hU : U < 4294967296 ^ m) (hz : zs.length = n + m) (hr : Row wr g zs) (hb : Below g w wr) (hd : Bd zs) (hv : val zs = V % 4294967296 ^ k * U) :
    InnerRel U x (V % 4294967296 ^ k * U) k n m g w (.int .u64 0) (.int .i64 0) wr := by
  refine ⟨0, 0, zs, Nat.zero_le _, rfl, rfl, by decide, hz, hr, hb, hd, ?_, by simp [hv, Nat.mod_one]⟩
  rw [val_digit hd, hv, Nat.div_eq_of_lt]
  rw [Nat.pow_add]
  exact Nat.mul_lt_mul_of_lt_of_le (Nat.mod_lt _ (pow_pos' k)) (Nat.le_of_lt hU) (pow_pos' m)

theorem inner_sum {Z Z' T p q cv old s x u y s1 s2 : Nat} (hv : Z + p * q * cv = T + p * (x * u)) (hs : s = cv + (x * y + old)) (hz : Z' + p * q * old = Z + p * q * s1) (e : s = s1 + 4294967296 * s2) :
    Z' + p * (q * 4294967296) * s2 = T + p * (x * (u + q * y)) := by
  have h1 : p * q * s = p * q * s1 + p * (q * 4294967296) * s2 := by rw [e]; grind
  have h2 : p * q * s = p * q * cv + p * (x * (q * y)) + p * q * old := by rw [hs]; grind
  have h3 : p * (x * (u + q * y)) = p * (x * u) + p * (x * (q * y)) := by grind
  omega

theorem inner_step {U x T i j n m g cv y old : Nat} {zs : List Nat} {w wr : World} (hi : i < n) (hj : j < m) (hc : cv < 4294967296) (hx : x < 4294967296) (hz : zs.length = n + m) (hr : Row wr g zs) (hb : Below g w wr) (hd : Bd zs)
    (h0 : zs.getD (i + m) 0 = 0) (hv : val zs + 4294967296 ^ (i + j) * cv = T + 4294967296 ^ i * (x * (U % 4294967296 ^ j))) (hy : y = U / 4294967296 ^ j % 4294967296) (ho : old = zs.getD (i + j) 0) :
    InnerRel U x T i n m g w (.int .u64 (((cv : Int) + (((x * y : Nat) : Int) + old)) / 4294967296)) (.int .i64 ((j : Int) + 1)) (wr.setCell ⟨g, i + j, none⟩ (.int .u32 (((cv : Int) + (((x * y : Nat) : Int) + old)) % 4294967296))) := by
  have ly : y < 4294967296 := by rw [hy]; exact Nat.mod_lt _ (by omega)
  have lo : old < 4294967296 := by rw [ho, val_digit hd]; exact Nat.mod_lt _ (by omega)
  have hxy : x * y ≤ 4294967295 * 4294967295 := Nat.mul_le_mul (by omega) (by omega)
  refine ⟨j + 1, (cv + (x * y + old)) / 4294967296, zs.set (i + j) ((cv + (x * y + old)) % 4294967296), hj, rfl, by congr 1, by omega, by simpa using hz, hr.set' _ _ (by omega), hb.setCell (by simp) _, hd.set _ (by omega), ?_, ?_⟩
  · have e : (zs.set (i + j) ((cv + (x * y + old)) % 4294967296)).getD (i + m) 0 = zs.getD (i + m) 0 := by
      simp only [List.getD, List.getElem?_set]
      rw [if_neg (by omega)]
    rw [e, h0]
  · have hs := val_set (xs := zs) (k := i + j) (by omega) ((cv + (x * y + old)) % 4294967296)
    rw [← ho, Nat.pow_add] at hs
    rw [Nat.pow_add] at hv
    rw [mod_step U, ← hy, Nat.pow_add, Nat.pow_succ]
    exact inner_sum hv rfl hs (by omega)

theorem outer_step {V U x k n m g cv : Nat} {zs : List Nat} {w wr : World} (hk : k < n) (hU : U < 4294967296 ^ m) (hx : x = V / 4294967296 ^ k % 4294967296) (hc : cv < 4294967296) (hz : zs.length = n + m) (hr : Row wr g zs) (hb : Below g w wr) (hd : Bd zs)
    (h0 : zs.getD (k + m) 0 = 0) (hv : val zs + 4294967296 ^ (k + m) * cv = V % 4294967296 ^ k * U + 4294967296 ^ k * (x * (U % 4294967296 ^ m))) :
    TimesRel V U n m g w (.int .i64 ((k : Int) + 1)) (wr.setCell ⟨g, k + m, none⟩ (.int .u32 (cv : Nat))) := by
  refine ⟨k + 1, zs.set (k + m) cv, hk, rfl, by simpa using hz, hr.set _ _, hb.setCell (by simp) _, hd.set _ hc, ?_⟩
  rw [val_set_zero (by omega) cv h0, hv, Nat.mod_eq_of_lt hU, mod_step V, ← hx, Nat.add_mul]
  congr 1
  rw [Nat.mul_assoc]

theorem prod_wrap {x y : Nat} (hx : x < 4294967296) (hy : y < 4294967296) (c o : Nat) (hc : c < 4294967296) (ho : o < 4294967296) :
    IntKind.u64.wrap ((x : Int) * y) = ((x * y : Nat) : Int) ∧ IntKind.u64.wrap (((x * y : Nat) : Int) + o) = ((x * y : Nat) : Int) + o ∧ IntKind.u64.wrap ((c : Int) + (((x * y : Nat) : Int) + o)) = (c : Int) + (((x * y : Nat) : Int) + o) := by
  have hxy : x * y ≤ 4294967295 * 4294967295 := Nat.mul_le_mul (by omega) (by omega)
  have e : (x : Int) * y = ((x * y : Nat) : Int) := by simp
  rw [e]
  refine ⟨IntWalk.u64_in _ ⟨by omega, by omega⟩, IntWalk.u64_in _ ⟨by omega, by omega⟩, IntWalk.u64_in _ ⟨by omega, by omega⟩⟩

set_option maxHeartbeats 1000000 in
theorem times_any {w : World} {va vb : Value} {xs ys : List Nat} (ha : Sl w va xs) (hb : Sl w vb ys) (hla : 4 * xs.length ≤ 140737488351232) (hlb : 4 * ys.length ≤ 140737488351232) :
    Calls Tryz.prog 69 #[va, vb] w (NewDigs w (val xs * val ys)) := by
  obtain ⟨aa, ca, rfl⟩ := ha.mk'
  obtain ⟨ab, cb, rfl⟩ := hb.mk'
  have hV := val_lt ha.bd
  have hU := val_lt hb.bd
  obtain ⟨n, hn⟩ : ∃ n : Nat, n = xs.length := ⟨_, rfl⟩
  obtain ⟨m, hm⟩ : ∃ m : Nat, m = ys.length := ⟨_, rfl⟩
  rw [← hn] at hla hV ha ⊢
  rw [← hm] at hlb hU hb ⊢
  have HV := Lib.hid hV
  have HU := Lib.hid hU
  have HN := Lib.hid hn
  have HM := Lib.hid hm
  clear hV hU hn hm
  go_enter Tryz.func69, Tryz.ntmps69
  go_wp2_with (at_make; go_must (refine wpList_make_row _ rfl _ _ rfl _ _ _ _ (n + m) rfl rfl (by omega) (by omega) (by omega) ?_; intro w1 hrow hbel))
  go_loopw [19] (fun i wr => TimesRel (val xs) (val ys) n m w.heap.size w i wr) (fun i _ => n - (intOf i).toNat)
  case atStart => exact times_start _ _ _ _ _ _ hrow hbel
  case round =>
    obtain ⟨k, zs, hk, rfl, hz, hr, hbl, hd, hv⟩ := hrel
    have HVV := Lib.hid hv
    have HZ := Lib.hid hz
    clear hv hz
    by_cases hlt : k < n
    · obtain ⟨b, off, rfl, hcap, hbs, hcl⟩ := ha.at (by omega)
      have hca := hcl.at hbl hbs k (by rw [← HN.out]; exact hlt)
      have ex := val_digit ha.bd k
      obtain ⟨x, hx⟩ : ∃ x, x = xs.getD k 0 := ⟨_, rfl⟩
      rw [← hx] at hca ex
      have lx : x < 4294967296 := by rw [ex]; exact Nat.mod_lt _ (by omega)
      have EX := Lib.hid ex
      have HCL := Lib.hid hcl
      clear hx ex hcl
      go_wp2
      obtain ⟨wo, rfl⟩ : ∃ wo : World, wo = wr := ⟨_, rfl⟩
      go_loopw [8, 26] (fun c j wr => InnerRel (val ys) x (val xs % 4294967296 ^ k * val ys) k n m w.heap.size w c j wr) (fun _ j _ => m - (intOf j).toNat)
      case atStart => exact inner_start hlt HU.out HZ.out hr hbl hd HVV.out
      case round =>
        obtain ⟨j, cv, zs', hj, rfl, rfl, hcv, hz', hr', hbl', hd', h0', hv'⟩ := hrel
        have HVV' := Lib.hid hv'
        have HZ' := Lib.hid hz'
        have H0' := Lib.hid h0'
        clear hv' h0'
        by_cases hlj : j < m
        · obtain ⟨b', off', rfl, hcap', hbs', hcl'⟩ := hb.at (by omega)
          have hcb := hcl'.at hbl' hbs' j (by rw [← HM.out]; exact hlj)
          have ey := val_digit hb.bd j
          obtain ⟨y, hy⟩ : ∃ y, y = ys.getD j 0 := ⟨_, rfl⟩
          rw [← hy] at hcb ey
          have ly : y < 4294967296 := by rw [ey]; exact Nat.mod_lt _ (by omega)
          have hc := hr'.cell (k + j) (by omega)
          have hf := hr'.free (k + j)
          obtain ⟨z, hzz⟩ : ∃ z, z = zs'.getD (k + j) 0 := ⟨_, rfl⟩
          rw [← hzz] at hc
          have lz : z < 4294967296 := by rw [hzz, val_digit hd']; exact Nat.mod_lt _ (by omega)
          have EY := Lib.hid ey
          have HCL := Lib.hid hcl'
          have HZZ := Lib.hid hzz
          obtain ⟨e1, e2, e3⟩ := prod_wrap lx ly cv z hcv lz
          clear hy ey hcl' hzz hz' hca
          obtain ⟨p, hp⟩ : ∃ p, p = x * y := ⟨_, rfl⟩
          rw [← hp] at e1 e2 e3
          have HP := Lib.hid hp
          clear hp
          go_wp2
          go_roundw
          case rel =>
            have h := inner_step hlt hlj hcv lx HZ'.out hr' hbl' hd' H0'.out HVV'.out EY.out HZZ.out
            rw [← HP.out] at h
            exact h
          case measure => simp [intOf]; omega
        · obtain rfl : j = m := by omega
          have hc := hr'.cell (k + j) (by omega)
          have hf := hr'.free (k + j)
          have h0 := H0'.out
          rw [h0] at hc
          clear h0 hz'
          go_wp2
          go_roundw
          case rel => exact outer_step hlt HU.out EX.out hcv HZ'.out hr' hbl' hd' H0'.out HVV'.out
          case measure => simp [intOf]; omega
    · obtain rfl : k = n := by omega
      have hend : val zs = val xs * val ys := by rw [HVV.out, Nat.mod_eq_of_lt HV.out]
      have hsw := hr.sw' (Nat.le_refl _) hd HZ.out (by unfold maxLen; omega)
      have ht := trim_any _ _ _ hsw.sl
      have hu := hsw.trim
      rw [hend] at ht hu
      have HE := Lib.hid hu
      clear hend hsw hu
      go_wp2_with (go_at_call 76; refine ht.mono ?_; rintro e w' ⟨rfl, rfl⟩)
      go_ret
      exact ⟨_, rfl, HE.out, hbl⟩

end Go.Proofs.YtdgmjmckeeeljaaGreatDoor
