/- Contracts of num: products. No condition but that the slices read as digits. slices.Backward over digits, and compare. No condition but that the slices read as digits. compare. No condition but that the slices read as digits without zeros at the end. Contracts of num: right numbers, made. No condition but that the slices read as digits. -/
import Derived.Test.YtjlneggfkpjnpaaMb6
import Derived.RangeFuncNested
import Derived.RangeFuncBound
import Derived.RangeFuncCalls
import Derived.RangeFuncLeaves
import Derived.Shelf.Abstract
import Derived.Shelf.RegionOpen
import Derived.OwnWalkIn
import Derived.TacticsInMore
import Derived.LoopNIn
import Derived.LoopIn
set_option linter.unusedSimpArgs false
set_option linter.unusedVariables false
namespace Go.Proofs.Ytjlneggfkpjnpaa.Nums
open Go.RowKit

/-- What holds at the head of each outer round of times. -/
def TimesRel (V U n m g : Nat) (w : World) (i : Value) (wr : World) : Prop :=
  ∃ k zs, k ≤ n ∧ i = .int .i64 (k : Nat) ∧ zs.length = n + m ∧ Row wr g zs ∧ Below g w wr ∧ Bd zs ∧ val zs = V % 4294967296 ^ k * U

theorem times_start (V U n m : Nat) (w w1 : World) (hr : Row w1 w.heap.size (List.replicate (n + m) 0)) (hb : Below w.heap.size w w1) : TimesRel V U n m w.heap.size w (.int .i64 0) w1 :=
  ⟨0, _, Nat.zero_le _, rfl, by simp, hr, hb, bd_zeros _, by simp [val_zeros, Nat.mod_one]⟩

/-- What holds at the head of each inner round: i digits are done, x is the next one; T is what was there before it. -/
def InnerRel (U x T i n m g : Nat) (w : World) (c jv : Value) (wr : World) : Prop :=
  ∃ j cv zs, j ≤ m ∧ jv = .int .i64 (j : Nat) ∧ c = .int .u64 (cv : Nat) ∧ cv < 4294967296 ∧ zs.length = n + m ∧ Row wr g zs ∧ Below g w wr ∧ Bd zs ∧ zs.getD (i + m) 0 = 0 ∧
    val zs + 4294967296 ^ (i + j) * cv = T + 4294967296 ^ i * (x * (U % 4294967296 ^ j))

theorem inner_start {V U x k n m g : Nat} {zs : List Nat} {w wr : World} (hk : k < n) (hU : U < 4294967296 ^ m) (hz : zs.length = n + m) (hr : Row wr g zs) (hb : Below g w wr) (hd : Bd zs) (hv : val zs = V % 4294967296 ^ k * U) :
    InnerRel U x (V % 4294967296 ^ k * U) k n m g w (.int .u64 0) (.int .i64 0) wr := by
  refine ⟨0, 0, zs, Nat.zero_le _, rfl, rfl, by decide, hz, hr, hb, hd, ?_, by simp [hv, Nat.mod_one]⟩
  rw [val_digit hd, hv, Nat.div_eq_of_lt]
  rw [Nat.pow_add]
  exact Nat.mul_lt_mul_of_lt_of_le (Nat.mod_lt _ (pow_pos' k)) (Nat.le_of_lt hU) (pow_pos' m)

theorem inner_sum {Z Z' T p q cv old s x u y s1 s2 : Nat} (hv : Z + p * q * cv = T + p * (x * u)) (hs : s = cv + (x * y + old)) (hz : Z' + p * q * old = Z + p * q * s1) (e : s = s1 + 4294967296 * s2) :
    Z' + p * (q * 4294967296) * s2 = T + p * (x * (u + q * y)) := by
  have h1 : p * q * s = p * q * s1 + p * (q * 4294967296) * s2 := by rw [e]; grind
  have h2 : p * q * s = p * q * cv + p * (x * (q * y)) + p * q * old := by rw [hs]; grind
  have h3 : p * (x * (u + q * y)) = p * (x * u) + p * (x * (q * y)) := by grind
  omega

theorem inner_step {U x T i j n m g cv y old : Nat} {zs : List Nat} {w wr : World} (hi : i < n) (hj : j < m) (hc : cv < 4294967296) (hx : x < 4294967296) (hz : zs.length = n + m) (hr : Row wr g zs) (hb : Below g w wr) (hd : Bd zs)
    (h0 : zs.getD (i + m) 0 = 0) (hv : val zs + 4294967296 ^ (i + j) * cv = T + 4294967296 ^ i * (x * (U % 4294967296 ^ j))) (hy : y = U / 4294967296 ^ j % 4294967296) (ho : old = zs.getD (i + j) 0) :
    InnerRel U x T i n m g w (.int .u64 (((cv : Int) + (((x * y : Nat) : Int) + old)) / 4294967296)) (.int .i64 ((j : Int) + 1)) (wr.setCell ⟨g, i + j, none⟩ (.int .u32 (((cv : Int) + (((x * y : Nat) : Int) + old)) % 4294967296))) := by
  have ly : y < 4294967296 := by rw [hy]; exact Nat.mod_lt _ (by omega)
  have lo : old < 4294967296 := by rw [ho, val_digit hd]; exact Nat.mod_lt _ (by omega)
  have hxy : x * y ≤ 4294967295 * 4294967295 := Nat.mul_le_mul (by omega) (by omega)
  refine ⟨j + 1, (cv + (x * y + old)) / 4294967296, zs.set (i + j) ((cv + (x * y + old)) % 4294967296), hj, rfl, by congr 1, by omega, by simpa using hz, hr.set' _ _ (by omega), hb.setCell (by simp) _, hd.set _ (by omega), ?_, ?_⟩
  · have e : (zs.set (i + j) ((cv + (x * y + old)) % 4294967296)).getD (i + m) 0 = zs.getD (i + m) 0 := by
      simp only [List.getD, List.getElem?_set]
      rw [if_neg (by omega)]
    rw [e, h0]
  · have hs := val_set (xs := zs) (k := i + j) (by omega) ((cv + (x * y + old)) % 4294967296)
    rw [← ho, Nat.pow_add] at hs
    rw [Nat.pow_add] at hv
    rw [mod_step U, ← hy, Nat.pow_add, Nat.pow_succ]
    exact inner_sum hv rfl hs (by omega)

theorem outer_step {V U x k n m g cv : Nat} {zs : List Nat} {w wr : World} (hk : k < n) (hU : U < 4294967296 ^ m) (hx : x = V / 4294967296 ^ k % 4294967296) (hc : cv < 4294967296) (hz : zs.length = n + m) (hr : Row wr g zs) (hb : Below g w wr) (hd : Bd zs)
    (h0 : zs.getD (k + m) 0 = 0) (hv : val zs + 4294967296 ^ (k + m) * cv = V % 4294967296 ^ k * U + 4294967296 ^ k * (x * (U % 4294967296 ^ m))) :
    TimesRel V U n m g w (.int .i64 ((k : Int) + 1)) (wr.setCell ⟨g, k + m, none⟩ (.int .u32 (cv : Nat))) := by
  refine ⟨k + 1, zs.set (k + m) cv, hk, rfl, by simpa using hz, hr.set _ _, hb.setCell (by simp) _, hd.set _ hc, ?_⟩
  rw [val_set_zero (by omega) cv h0, hv, Nat.mod_eq_of_lt hU, mod_step V, ← hx, Nat.add_mul]
  congr 1
  rw [Nat.mul_assoc]

theorem prod_wrap {x y : Nat} (hx : x < 4294967296) (hy : y < 4294967296) (c o : Nat) (hc : c < 4294967296) (ho : o < 4294967296) :
    IntKind.u64.wrap ((x : Int) * y) = ((x * y : Nat) : Int) ∧ IntKind.u64.wrap (((x * y : Nat) : Int) + o) = ((x * y : Nat) : Int) + o ∧ IntKind.u64.wrap ((c : Int) + (((x * y : Nat) : Int) + o)) = (c : Int) + (((x * y : Nat) : Int) + o) := by
  have hxy : x * y ≤ 4294967295 * 4294967295 := Nat.mul_le_mul (by omega) (by omega)
  have e : (x : Int) * y = ((x * y : Nat) : Int) := by simp
  rw [e]
  refine ⟨IntWalk.u64_in _ ⟨by omega, by omega⟩, IntWalk.u64_in _ ⟨by omega, by omega⟩, IntWalk.u64_in _ ⟨by omega, by omega⟩⟩

set_option maxHeartbeats 1000000 in
theorem times_any {w : World} {va vb : Value} {xs ys : List Nat} (ha : Sl w va xs) (hb : Sl w vb ys) (hla : 4 * xs.length ≤ 140737488351232) (hlb : 4 * ys.length ≤ 140737488351232) :
    Calls Try.prog 40 #[va, vb] w (NewDigs w (val xs * val ys)) := by
  obtain ⟨aa, ca, rfl⟩ := ha.mk'
  obtain ⟨ab, cb, rfl⟩ := hb.mk'
  have hV := val_lt ha.bd
  have hU := val_lt hb.bd
  obtain ⟨n, hn⟩ : ∃ n : Nat, n = xs.length := ⟨_, rfl⟩
  obtain ⟨m, hm⟩ : ∃ m : Nat, m = ys.length := ⟨_, rfl⟩
  rw [← hn] at hla hV ha ⊢
  rw [← hm] at hlb hU hb ⊢
  have HV := Lib.hid hV
  have HU := Lib.hid hU
  have HN := Lib.hid hn
  have HM := Lib.hid hm
  clear hV hU hn hm
  go_enter Try.func40, Try.ntmps40
  go_wp2_with (at_make; go_must (refine wpList_make_row _ rfl _ _ rfl _ _ _ _ (n + m) rfl rfl (by omega) (by omega) (by omega) ?_; intro w1 hrow hbel))
  go_loopw [19] (fun i wr => TimesRel (val xs) (val ys) n m w.heap.size w i wr) (fun i _ => n - (intOf i).toNat)
  case atStart => exact times_start _ _ _ _ _ _ hrow hbel
  case round =>
    obtain ⟨k, zs, hk, rfl, hz, hr, hbl, hd, hv⟩ := hrel
    have HVV := Lib.hid hv
    have HZ := Lib.hid hz
    clear hv hz
    by_cases hlt : k < n
    · obtain ⟨b, off, rfl, hcap, hbs, hcl⟩ := ha.at (by omega)
      have hca := hcl.at hbl hbs k (by rw [← HN.out]; exact hlt)
      have ex := val_digit ha.bd k
      obtain ⟨x, hx⟩ : ∃ x, x = xs.getD k 0 := ⟨_, rfl⟩
      rw [← hx] at hca ex
      have lx : x < 4294967296 := by rw [ex]; exact Nat.mod_lt _ (by omega)
      have EX := Lib.hid ex
      have HCL := Lib.hid hcl
      clear hx ex hcl
      go_wp2
      obtain ⟨wo, rfl⟩ : ∃ wo : World, wo = wr := ⟨_, rfl⟩
      go_loopw [8, 26] (fun c j wr => InnerRel (val ys) x (val xs % 4294967296 ^ k * val ys) k n m w.heap.size w c j wr) (fun _ j _ => m - (intOf j).toNat)
      case atStart => exact inner_start hlt HU.out HZ.out hr hbl hd HVV.out
      case round =>
        obtain ⟨j, cv, zs', hj, rfl, rfl, hcv, hz', hr', hbl', hd', h0', hv'⟩ := hrel
        have HVV' := Lib.hid hv'
        have HZ' := Lib.hid hz'
        have H0' := Lib.hid h0'
        clear hv' h0'
        by_cases hlj : j < m
        · obtain ⟨b', off', rfl, hcap', hbs', hcl'⟩ := hb.at (by omega)
          have hcb := hcl'.at hbl' hbs' j (by rw [← HM.out]; exact hlj)
          have ey := val_digit hb.bd j
          obtain ⟨y, hy⟩ : ∃ y, y = ys.getD j 0 := ⟨_, rfl⟩
          rw [← hy] at hcb ey
          have ly : y < 4294967296 := by rw [ey]; exact Nat.mod_lt _ (by omega)
          have hc := hr'.cell (k + j) (by omega)
          have hf := hr'.free (k + j)
          obtain ⟨z, hzz⟩ : ∃ z, z = zs'.getD (k + j) 0 := ⟨_, rfl⟩
          rw [← hzz] at hc
          have lz : z < 4294967296 := by rw [hzz, val_digit hd']; exact Nat.mod_lt _ (by omega)
          have EY := Lib.hid ey
          have HCL := Lib.hid hcl'
          have HZZ := Lib.hid hzz
          obtain ⟨e1, e2, e3⟩ := prod_wrap lx ly cv z hcv lz
          clear hy ey hcl' hzz hz' hca
          obtain ⟨p, hp⟩ : ∃ p, p = x * y := ⟨_, rfl⟩
          rw [← hp] at e1 e2 e3
          have HP := Lib.hid hp
          clear hp
          go_wp2
          go_roundw
          case rel =>
            have h := inner_step hlt hlj hcv lx HZ'.out hr' hbl' hd' H0'.out HVV'.out EY.out HZZ.out
            rw [← HP.out] at h
            exact h
          case measure => simp [intOf]; omega
        · obtain rfl : j = m := by omega
          have hc := hr'.cell (k + j) (by omega)
          have hf := hr'.free (k + j)
          have h0 := H0'.out
          rw [h0] at hc
          clear h0 hz'
          go_wp2
          go_roundw
          case rel => exact outer_step hlt HU.out EX.out hcv HZ'.out hr' hbl' hd' H0'.out HVV'.out
          case measure => simp [intOf]; omega
    · obtain rfl : k = n := by omega
      have hend : val zs = val xs * val ys := by rw [HVV.out, Nat.mod_eq_of_lt HV.out]
      have hsw := hr.sw' (Nat.le_refl _) hd HZ.out (by unfold maxLen; omega)
      have ht := trim_any _ _ _ hsw.sl
      have hu := hsw.trim
      rw [hend] at ht hu
      have HE := Lib.hid hu
      clear hend hsw hu
      go_wp2_with (go_at_call 47; refine ht.mono ?_; rintro e w' ⟨rfl, rfl⟩)
      go_ret
      exact ⟨_, rfl, HE.out, hbl⟩

end Go.Proofs.Ytjlneggfkpjnpaa.Nums

namespace Go.Proofs.Ytjlneggfkpjnpaa.Nums
open Go.RowKit Go.Shelf
attribute [local go_sem] Oper.semAt_some

/-- What has come when k rounds are over: the last digit first, each with its place. -/
def back (zs : List Nat) (k : Nat) : List (Nat × Nat) := (List.range k).map fun i => (zs.length - 1 - i, zs.getD (zs.length - 1 - i) 0)
theorem back_succ (zs : List Nat) (k : Nat) : back zs (k + 1) = back zs k ++ [(zs.length - 1 - k, zs.getD (zs.length - 1 - k) 0)] := by simp [back, List.range_succ]
theorem back_length (zs : List Nat) (k : Nat) : (back zs k).length = k := by simp [back]

/-- The place and the digit that a round is handed; whatever pair it is, they are in their ranges. -/
def ix (N : Nat) (x : Nat × Nat) : Nat := x.1 % N
def dv (x : Nat × Nat) : Nat := x.2 % 4294967296
theorem ix_lt {N : Nat} (h : 0 < N) (x : Nat × Nat) : ix N x < N := Nat.mod_lt _ h
theorem dv_lt (x : Nat × Nat) : dv x < 4294967296 := Nat.mod_lt _ (by omega)
theorem ix_of {N m : Nat} (h : m < N) (z : Nat) : ix N (m, z) = m := Nat.mod_eq_of_lt h
theorem dv_of {z : Nat} (h : z < 4294967296) (m : Nat) : dv (m, z) = z := Nat.mod_eq_of_lt h

/-- What a loop's body keeps: the slice's block and the box that holds the slice. -/
def Same2 (b B : Nat) (W W' : World) : Prop := W'.heap[b]? = W.heap[b]? ∧ W'.heap[B]? = W.heap[B]?
theorem Same2.trans {b B : Nat} {A C D : World} (h : Same2 b B A C) (k : Same2 b B C D) : Same2 b B A D := ⟨k.1.trans h.1, k.2.trans h.2⟩
theorem Same2.refl {b B : Nat} (A : World) : Same2 b B A A := ⟨rfl, rfl⟩
theorem same2_b {b B : Nat} {w : World} (hb : b < w.heap.size) (hB : B < w.heap.size) (W : World) (l : Nat) (o o' : Obj) (hl : w.heap.size ≤ l) (_ : W.heap[l]? = some o) (_ : o.isCells = false) (_ : o.isWalk = false) : Same2 b B W (W.putObj l o') :=
  ⟨World.putObj_heap_other (by omega), World.putObj_heap_other (by omega)⟩

/-- The slice and its box. -/
def Boxd (W : World) (b B off cap : Nat) (zs : List Nat) : Prop := W.cell? ⟨B, 0, none⟩ = some (.slice (some ⟨b, off, none⟩) zs.length cap) ∧ Cl W b off zs
theorem Boxd.same {W W' : World} {b B off cap : Nat} {zs : List Nat} (h : Boxd W b B off cap zs) (k : Same2 b B W W') : Boxd W' b B off cap zs :=
  ⟨(World.cell?_of_block (w := W) (a := ⟨B, 0, none⟩) k.2).trans h.1, fun j hj => (World.cell?_of_block (w := W) (a := ⟨b, off + j, none⟩) k.1).trans (h.2 j hj)⟩

set_option maxRecDepth 100000 in
set_option maxHeartbeats 2000000 in
theorem backward1_in (F : Fence) (n : Nat) (h90 : F.fn 53) (hro : F.round = none) (hn : 1 ≤ n) (l b B off cap : Nat) (zs : List Nat) (hbd : Bd zs) (hreach : zs.length ≤ 140737488351232) (hcap : zs.length ≤ cap) (J Jx : List (Nat × Nat) → World → Prop)
    (hY : ∀ pre x W, J pre W → pre.length < zs.length → YieldAt F (n - 1) Try.prog l #[.int .i64 (ix zs.length x : Nat), .int .u32 (dv x : Nat)] W fun e W' =>
      (e = .returned (.bool true) ∧ J (pre ++ [x]) W' ∧ Same2 b B W W') ∨ (e = .returned (.bool false) ∧ Jx (pre ++ [x]) W'))
    (W : World) (hBs : Boxd W b B off cap zs) (h0 : J [] W) :
    CallsIn F n Try.prog 53 #[.func (.yield l) #[] #[], .pointer (some ⟨B, 0, none⟩)] W fun e W' => (∃ v, e = .returned v) ∧
      ((∃ ys, ys = back zs zs.length ∧ J ys W') ∨ (∃ pre, (∃ k, k ≤ zs.length ∧ pre = back zs k) ∧ Jx pre W')) := by
  obtain ⟨len, hlen⟩ : ∃ len : Nat, len = zs.length := ⟨_, rfl⟩
  have hB1 := hBs.1
  rw [← hlen] at hB1 hreach hcap
  have HLEN := Lib.hid hlen
  clear hlen
  refine callsIn_of_wp Try.func53 rfl h90 ?_ hro
  simp only [Try.ntmps53, List.size_toArray, List.length_cons, List.length_nil, Nat.reduceAdd, Nat.reduceSub, Array.replicate_succ, Array.replicate_zero, List.push_toArray, List.append_toArray, List.nil_append, List.cons_append]
  gi_wp2
  gi_loopw [3] (fun i wr => ∃ m : Nat, m ≤ len ∧ i = .int .i64 ((m : Int) - 1) ∧ J (back zs (len - m)) wr ∧ Boxd wr b B off cap zs)
    (fun i _ => (intOf i + 1).toNat)
  case atStart => exact ⟨len, Nat.le_refl _, by go_num, by simpa [back] using h0, hBs⟩
  case round =>
    obtain ⟨m, hk, rfl, hJs, hnx⟩ := hrel
    have hb1 := hnx.1
    rw [← HLEN.out] at hb1
    cases m with
    | succ m =>
      have hcx := hnx.2 m (by rw [← HLEN.out]; omega)
      obtain ⟨fn, tmps, assign, body, hy, hR⟩ := hY _ (m, zs.getD m 0) wr hJs (by rw [back_length, ← HLEN.out]; omega)
      have hbs : back zs (len - m) = back zs (len - (m + 1)) ++ [(m, zs.getD m 0)] := by
        rw [show len - m = len - (m + 1) + 1 by omega, back_succ, ← HLEN.out]
        rw [show len - 1 - (len - (m + 1)) = m by omega]
      have lz : zs.getD m 0 < 4294967296 := by rw [val_digit hbd]; exact Nat.mod_lt _ (by omega)
      obtain ⟨z, hz⟩ : ∃ z, z = zs.getD m 0 := ⟨_, rfl⟩
      rw [← hz] at hcx hy hR hbs lz
      rw [ix_of (by rw [← HLEN.out]; omega), dv_of lz] at hy
      have HBS := Lib.hid hbs
      have HNX := Lib.hid hnx
      clear hbs hz hnx
      gi_wp2
      refine hR.mono ?_
      rintro e W3 (⟨rfl, hJ3, hk3⟩ | ⟨rfl, hJx3⟩)
      · gi_wp2
        go_roundw
        case rel => exact ⟨m, by omega, by go_num, by rw [HBS.out]; exact hJ3, HNX.out.same hk3⟩
        case measure => simp [intOf]
      · gi_wp2
        refine bodyPost_ret (results_none rfl _ _ _) rfl ?_
        exact ⟨⟨_, rfl⟩, .inr ⟨_, ⟨len - m, by rw [← HLEN.out]; omega, HBS.out.symm⟩, hJx3⟩⟩
    | zero =>
      have HJ := Lib.hid hJs
      clear hJs
      gi_wp2
      go_end0
      exact ⟨⟨_, rfl⟩, .inl ⟨_, by rw [← HLEN.out]; rfl, HJ.out⟩⟩

set_option maxRecDepth 100000 in
set_option maxHeartbeats 1000000 in
theorem backward1_nil_in (F : Fence) (n : Nat) (h90 : F.fn 53) (hro : F.round = none) (l B : Nat) (ao : Option Addr) (cap : Nat) (J : List (Nat × Nat) → World → Prop) (W : World) (hBs : W.cell? ⟨B, 0, none⟩ = some (.slice ao 0 cap)) (h0 : J [] W) :
    CallsIn F n Try.prog 53 #[.func (.yield l) #[] #[], .pointer (some ⟨B, 0, none⟩)] W fun e W' => (∃ v, e = .returned v) ∧ J [] W' := by
  refine callsIn_of_wp Try.func53 rfl h90 ?_ hro
  simp only [Try.ntmps53, List.size_toArray, List.length_cons, List.length_nil, Nat.reduceAdd, Nat.reduceSub, Array.replicate_succ, Array.replicate_zero, List.push_toArray, List.append_toArray, List.nil_append, List.cons_append]
  gi_wp2
  gi_loopw [3] (fun i wr => i = .int .i64 (-1) ∧ J [] wr) (fun _ _ => 0)
  case atStart => exact ⟨rfl, h0⟩
  case round =>
    obtain ⟨rfl, hJs⟩ := hrel
    have HJ := Lib.hid hJs
    clear hJs
    gi_wp2
    go_end0
    exact ⟨⟨_, rfl⟩, HJ.out⟩

set_option maxHeartbeats 1000000 in
theorem backward_in (F : Fence) (n : Nat) (h58 : F.fn 49) (hro : F.round = none) (ao : Option Addr) (len cap : Nat) (w : World) :
    CallsIn F n Try.prog 49 #[.slice ao len cap] w fun e w' => e = .returned (.func (.func 53) #[] #[.pointer (some ⟨w.heap.size, 0, none⟩)]) ∧ w' = w.alloc (.cells #[.slice ao len cap] 52) := by
  refine callsIn_of_wp Try.func49 rfl h58 ?_ hro
  simp only [Try.ntmps49, List.size_toArray, List.length_cons, List.length_nil, Nat.reduceAdd, Nat.reduceSub, Array.replicate_succ, Array.replicate_zero, List.push_toArray, List.append_toArray, List.nil_append, List.cons_append]
  gi_wp2
  go_ret
  exact ⟨rfl, rfl⟩

/-- The block of a slice that is not empty. -/
def blockOf : Value → Nat
  | .slice (some a) (_ + 1) _ => a.block
  | _ => 0

theorem Sl.blockOf_lt {w : World} {v : Value} {zs : List Nat} (h : Sl w v zs) (hp : 0 < w.heap.size) : blockOf v < w.heap.size := by
  rcases h.is with ⟨rfl, ao, cap, rfl⟩ | ⟨b, off, cap, rfl, hcap, hcl⟩
  · cases ao <;> exact hp
  · cases zs with
    | nil => exact hp
    | cons z zs => exact block_lt_of_cell (hcl 0 (by simp))

theorem back_stops (F : Fence) (n : Nat) (h90 : F.fn 53) (hro : F.round = none) (hn : 1 ≤ n) (B : Nat) (v : Value) (zs : List Nat) (hreach : zs.length ≤ 140737488351232) (w : World) (hB : B < w.heap.size)
    (hc : w.cell? ⟨B, 0, none⟩ = some v) (hI : Sl w v zs) :
    SeqStopsK F n Try.prog 53 #[.pointer (some ⟨B, 0, none⟩)] (fun x : Nat × Nat => #[Value.int .i64 (ix zs.length x : Nat), Value.int .u32 (dv x : Nat)]) (Same2 (blockOf v) B) (fun ys => ys = back zs zs.length)
      (fun pre => ∃ k, k ≤ zs.length ∧ pre = back zs k) zs.length w := fun l J Jx W hW _ _ hY h0 => by
  have hc' := (hW.cell (p := ⟨B, 0, none⟩) hB).trans hc
  rcases (hI.below hW).is with ⟨rfl, ao, cap, rfl⟩ | ⟨b, off, cap, rfl, hcap, hcl⟩
  · exact (backward1_nil_in F n h90 hro l B ao cap J W hc' h0).mono fun e W' ⟨he, hj⟩ => ⟨he, .inl ⟨_, rfl, hj⟩⟩
  · cases zs with
    | nil => exact (backward1_nil_in F n h90 hro l B _ cap J W hc' h0).mono fun e W' ⟨he, hj⟩ => ⟨he, .inl ⟨_, rfl, hj⟩⟩
    | cons z zs => exact backward1_in F n h90 hro hn l b B off cap _ hI.bd hreach hcap J Jx hY W ⟨hc', hcl⟩ h0

/-- Less, equal, greater. -/
def cmpN (x y : Nat) : Int := if x < y then -1 else if x = y then 0 else 1

set_option maxHeartbeats 1000000 in
theorem cmp32_any (x y : Nat) (w : World) :
    Calls Try.prog 50 #[.int .u32 x, .int .u32 y] w fun e w' => e = .returned (.int .i64 (cmpN x y)) ∧ w' = w := by
  rcases Nat.lt_trichotomy x y with h | h | h
  · have e0 : cmpN x y = -1 := by unfold cmpN; rw [if_pos h]
    rw [e0]
    clear e0
    go_enter Try.func50, Try.ntmps50
    go_wp2
    go_ret
    exact ⟨rfl, rfl⟩
  · have e0 : cmpN x y = 0 := by unfold cmpN; rw [if_neg (by omega), if_pos h]
    rw [e0]
    subst h
    clear e0
    go_enter Try.func50, Try.ntmps50
    go_wp2
    go_ret
    exact ⟨rfl, rfl⟩
  · have e0 : cmpN x y = 1 := by unfold cmpN; rw [if_neg (by omega), if_neg (by omega)]
    rw [e0]
    clear e0
    go_enter Try.func50, Try.ntmps50
    go_wp2
    go_ret
    exact ⟨rfl, rfl⟩

set_option maxHeartbeats 1000000 in
theorem cmp64_any (x y : Nat) (w : World) :
    Calls Try.prog 48 #[.int .i64 x, .int .i64 y] w fun e w' => e = .returned (.int .i64 (cmpN x y)) ∧ w' = w := by
  rcases Nat.lt_trichotomy x y with h | h | h
  · have e0 : cmpN x y = -1 := by unfold cmpN; rw [if_pos h]
    rw [e0]
    clear e0
    go_enter Try.func48, Try.ntmps48
    go_wp2
    go_ret
    exact ⟨rfl, rfl⟩
  · have e0 : cmpN x y = 0 := by unfold cmpN; rw [if_neg (by omega), if_pos h]
    rw [e0]
    subst h
    clear e0
    go_enter Try.func48, Try.ntmps48
    go_wp2
    go_ret
    exact ⟨rfl, rfl⟩
  · have e0 : cmpN x y = 1 := by unfold cmpN; rw [if_neg (by omega), if_neg (by omega)]
    rw [e0]
    clear e0
    go_enter Try.func48, Try.ntmps48
    go_wp2
    go_ret
    exact ⟨rfl, rfl⟩

end Go.Proofs.Ytjlneggfkpjnpaa.Nums

namespace Go.Proofs.Ytjlneggfkpjnpaa.Nums
open Go.RowKit Go.Shelf
attribute [local go_sem] Oper.semAt_some

set_option maxRecDepth 100000 in
set_option maxHeartbeats 2000000 in
theorem compare_eq_in (F : Fence) (n : Nat) (h68 : F.fn 41) (h58 : F.fn 49) (h90 : F.fn 53) (h99 : F.fn 50) (hc99 : ∀ k x y w, CallsIn F k Try.prog 50 #[.int .u32 (x : Nat), .int .u32 (y : Nat)] w fun e w' => e = .returned (.int .i64 (cmpN x y)) ∧ w' = w) (hro : F.round = none) (hn : 4 ≤ n) {w : World} {aa ab : Option Addr} {ca cb : Nat} {xs ys : List Nat} (ha : Sl w (.slice aa xs.length ca) xs) (hb : Sl w (.slice ab xs.length cb) ys) (hla : xs.length ≤ 140737488351232) (Z : Int)
    (hZ0 : (∀ j, j < xs.length → xs.getD j 0 = ys.getD j 0) → Z = 0) (hZ1 : ∀ k, k < xs.length → xs.getD k 0 ≠ ys.getD k 0 → (∀ j, k < j → j < xs.length → xs.getD j 0 = ys.getD j 0) → Z = cmpN (xs.getD k 0) (ys.getD k 0)) :
    CallsIn F n Try.prog 41 #[.slice aa xs.length ca, .slice ab xs.length cb] w fun e w' => e = .returned (.int .i64 Z) ∧ Below w.heap.size w w' := by
  have h1 : 1 ≤ n := by omega
  refine callsIn_of_wp_marks Try.func41 rfl h68 ?_ hro
  simp only [Try.ntmps41, List.size_toArray, List.length_cons, List.length_nil, Nat.reduceAdd, Nat.reduceSub, Array.replicate_succ, Array.replicate_zero, List.push_toArray, List.append_toArray, List.nil_append, List.cons_append]
  gi_wp2_with (gi_at_call 49; refine (backward_in F (n - 1) h58 hro _ _ _ _).mono ?_; rintro e w' ⟨rfl, rfl⟩)
  have bY := Boxed.new w 52 (.slice ab xs.length cb)
  have bR := Boxed.new (w.alloc (.cells #[.slice ab xs.length cb] 52)) 3 (.int .i64 0)
  have bN := Boxed.new ((w.alloc (.cells #[.slice ab xs.length cb] 52)).alloc (.cells #[.int .i64 0] 3)) 52 (.slice aa xs.length ca)
  simp only [World.size_alloc] at bR bN
  have hB0 : Below w.heap.size w (((w.alloc (.cells #[.slice ab xs.length cb] 52)).alloc (.cells #[.int .i64 0] 3)).alloc (.cells #[.slice aa xs.length ca] 52)) := (((Below.refl _ w).alloc (Nat.le_refl _) _).alloc (by simp) _).alloc (by simp; omega) _
  have hyl : xs.length = ys.length := hb.size
  have HYL := Lib.hid hyl
  clear hyl
  refine wpIn_rangeFunc_ownG hro h1 (gf := 53) (lb := #[.pointer (some ⟨w.heap.size + 1 + 1, 0, none⟩)]) rfl h90 (enters_of Try.func53 (by kernel_rfl) rfl)
    (back_stops F (n - 1) h90 hro (by omega) (w.heap.size + 1 + 1) _ xs (by omega) _ (by simp) bN.cell (ha.below hB0)) Same2.trans ?hKb (Below.refl _ _) (fun _ => rfl)
    (fun pre W => ((∀ p ∈ pre, dv p = ys.getD (ix xs.length p) 0) ∧ (W.cell? ⟨w.heap.size, 0, none⟩ = some (.slice ab xs.length cb) ∧ W.cell? ⟨w.heap.size + 1, 0, none⟩ = some (.int .i64 0)) ∧ W.frozen? ⟨w.heap.size + 1, 0, none⟩ = false) ∧ Below w.heap.size w W)
    (fun c pre W => (c = .ret ∧ ∃ ini last, pre = ini ++ [last] ∧ (∀ p ∈ ini, dv p = ys.getD (ix xs.length p) 0) ∧ dv last ≠ ys.getD (ix xs.length last) 0 ∧ W.cell? ⟨w.heap.size + 1, 0, none⟩ = some (.int .i64 (cmpN (dv last) (ys.getD (ix xs.length last) 0)))) ∧ Below w.heap.size w W)
    (OwnFrom.and (Own.from (fun s A B row hs hg hr => ⟨hs.1, ⟨cell_kept hs.2.1.1 hg hr, cell_kept hs.2.1.2 hg hr⟩, (frozen_kept hs.2.1.2 hg hr).trans hs.2.2⟩) _) (ownFrom_below (Nat.le_refl _) (by simp; omega)))
    (fun c => OwnFrom.and (Own.from (fun s A B row hs hg hr => by obtain ⟨hc, ini, last, e1, e2, e3, e4⟩ := hs; exact ⟨hc, ini, last, e1, e2, e3, cell_kept e4 hg hr⟩) _) (ownFrom_below (Nat.le_refl _) (by simp; omega)))
    ⟨⟨by simp, ⟨((bY.alloc _).alloc _).cell, (bR.alloc _).cell⟩, (bR.alloc _).frozen⟩, hB0⟩
    (fun x => { tmps := #[.slice aa xs.length ca, .slice ab xs.length cb, undef, .pointer (some ⟨w.heap.size, 0, none⟩), .pointer (some ⟨w.heap.size + 1, 0, none⟩), .int .i64 (ix xs.length x : Nat), .int .u32 (dv x : Nat), .slice aa xs.length ca, .int .i64 xs.length, .slice ab xs.length cb, .int .i64 xs.length, .bool false, undef, undef, undef, undef, undef, .slice aa xs.length ca, .func (.func 53) #[] #[.pointer (some ⟨w.heap.size + 1 + 1, 0, none⟩)], .int .i64 (ix xs.length x : Nat), .int .u32 (dv x : Nat), undef, undef, undef, undef, undef, undef, undef, undef, undef, undef, undef, undef], defers := [] }) ?assign ?body ?done ?stop
  case hKb => exact same2_b ((ha.below hB0).blockOf_lt (by simp)) (by simp)
  case assign =>
    intro l x W K hK
    gi_wp2
    exact hK
  case body =>
    rintro l pre x W ⟨⟨hp, ⟨hcy, hcr⟩, hfr⟩, hB⟩ hlen
    have hpos : 0 < xs.length := by omega
    have h3 : 1 ≤ n - 1 - 1 := by omega
    have hix := ix_lt hpos x
    have hdv := dv_lt x
    obtain ⟨b', off', rfl, hcap', hbs', hcl'⟩ := hb.at (by omega)
    have hcy' := hcl'.at hB hbs' (ix xs.length x) (by rw [← HYL.out]; exact hix)
    have HP := Lib.hid hp
    have HCL := Lib.hid hcl'
    clear hp hcl'
    obtain ⟨i, hi⟩ : ∃ i, i = ix xs.length x := ⟨_, rfl⟩
    obtain ⟨d, hd⟩ : ∃ d, d = dv x := ⟨_, rfl⟩
    obtain ⟨y, hy⟩ : ∃ y, y = ys.getD i 0 := ⟨_, rfl⟩
    rw [← hi, ← hy] at hcy'
    rw [← hi] at hix
    rw [← hd] at hdv
    rw [← hi, ← hd]
    have HI := Lib.hid hi
    have HD := Lib.hid hd
    have HY := Lib.hid hy
    clear hi hd hy
    by_cases hxy : d = y
    · subst hxy
      gi_wp2
      exact ⟨KeepsFrom.refl _ _, Same2.refl _, ⟨fun p hp' => (List.mem_append.1 hp').elim (HP.out p) (fun e => by simp only [List.mem_singleton] at e; subst e; rw [← HI.out, ← HD.out]; exact HY.out), ⟨hcy, hcr⟩, hfr⟩, hB⟩
    · have h2 : ((d : Int) != y) = true := by simp; omega
      gi_wp2_with (gi_at_call 50; refine (CallsIn.inRound l (hc99 _ d y _)).mono ?_; rintro e w' ⟨rfl, rfl⟩)
      exact ⟨(KeepsOthers.setCell _ _ _).from _, ⟨rfl, pre, x, rfl, HP.out, by rw [← HI.out, ← HD.out, ← HY.out]; exact hxy, by rw [← HI.out, ← HD.out, ← HY.out]; exact World.cell?_setCell_same' _ _ _ (by rw [hcr]; rfl)⟩, hB.setCell (p := ⟨w.heap.size + 1, 0, none⟩) (by simp) _⟩
  case done =>
    rintro D zs W hD rfl ⟨⟨hne, ⟨hcy, hcr⟩, hfr⟩, hB⟩ hK
    have hz := hZ0 (fun j hj => by
      have := hne (j, xs.getD j 0) (by
        simp only [back, List.mem_map, List.mem_range]
        exact ⟨xs.length - 1 - j, by omega, by rw [show xs.length - 1 - (xs.length - 1 - j) = j by omega]⟩)
      rw [dv_of (by rw [val_digit ha.bd]; exact Nat.mod_lt _ (by omega)), ix_of hj] at this
      exact this)
    subst hz
    clear hne
    gi_wp2
    have hK' := (KeepsOthers.setCell W ⟨w.heap.size + 1, 0, none⟩ (.int .i64 0)).same D _ hK rfl
    refine ⟨by simp, .inl ⟨_, _, rfl, run_takeDeferred hK', ?_⟩⟩
    have hc5 := cell_kept (World.cell?_setCell_same' W ⟨w.heap.size + 1, 0, none⟩ (.int .i64 0) (by rw [hcr]; rfl)) (grownBy_putObj' _ D (.deferred none)) (fun r e => by cases e; exact ⟨_, hK', rfl⟩)
    refine ⟨.int .i64 0, ?_, rfl, (hB.setCell (p := ⟨w.heap.size + 1, 0, none⟩) (by simp) _).trans (belowK_b (w := w) (Nat.le_refl _) _ D _ _ (by simp at hD; omega) hK' rfl rfl)⟩
    simp [results, Try.f41, go_sem, hc5]
  case stop =>
    rintro D c pre W hD ⟨k, hk, rfl⟩ ⟨⟨rfl, ini, last, e1, e2, e3, hcr⟩, hB⟩ hK
    gi_wp2
    refine ⟨by simp, .inl ⟨_, _, rfl, run_takeDeferred hK, ?_⟩⟩
    have hc5 := cell_kept hcr (grownBy_putObj' _ D (.deferred none)) (fun r e => by cases e; exact ⟨_, hK, rfl⟩)
    obtain ⟨k', rfl⟩ : ∃ k', k = k' + 1 := by
      cases k with
      | zero => simp [back] at e1
      | succ k' => exact ⟨k', rfl⟩
    rw [back_succ] at e1
    obtain ⟨rfl, e5⟩ := List.append_inj' e1 rfl
    obtain rfl : (xs.length - 1 - k', xs.getD (xs.length - 1 - k') 0) = last := by simpa using e5
    have lz : ∀ j, xs.getD j 0 < 4294967296 := fun j => by rw [val_digit ha.bd]; exact Nat.mod_lt _ (by omega)
    rw [dv_of (lz _), ix_of (by omega)] at e3 hc5
    have hz := hZ1 (xs.length - 1 - k') (by omega) e3 (fun j h1 h2 => by
      have := e2 (j, xs.getD j 0) (by
        simp only [back, List.mem_map, List.mem_range]
        exact ⟨xs.length - 1 - j, by omega, by rw [show xs.length - 1 - (xs.length - 1 - j) = j by omega]⟩)
      rw [dv_of (lz _), ix_of h2] at this
      exact this)
    refine ⟨.int .i64 Z, ?_, rfl, hB.trans (belowK_b (w := w) (Nat.le_refl _) W D _ _ (by simp at hD; omega) hK rfl rfl)⟩
    rw [hz]
    simp [results, Try.f41, go_sem, hc5]

theorem cmpN_eq (x : Nat) : cmpN x x = 0 := by unfold cmpN; rw [if_neg (by omega), if_pos rfl]
theorem cmpN_lt {x y : Nat} (h : x < y) : cmpN x y = -1 := by unfold cmpN; rw [if_pos h]
theorem cmpN_gt {x y : Nat} (h : y < x) : cmpN x y = 1 := by unfold cmpN; rw [if_neg (by omega), if_neg (by omega)]

/-- The digits above the place tell which number is greater. -/
theorem cmp_digits {xs ys : List Nat} (hx : Bd xs) (hy : Bd ys) (hl : xs.length = ys.length) :
    ((∀ j, j < xs.length → xs.getD j 0 = ys.getD j 0) → val xs = val ys) ∧
    (∀ k, k < xs.length → (∀ j, k < j → j < xs.length → xs.getD j 0 = ys.getD j 0) → (xs.getD k 0 < ys.getD k 0 → val xs < val ys) ∧ (ys.getD k 0 < xs.getD k 0 → val ys < val xs)) := by
  induction xs generalizing ys with
  | nil =>
    cases ys with
    | nil => exact ⟨fun _ => rfl, fun k hk => by simp at hk⟩
    | cons y ys => simp at hl
  | cons x xs ih =>
    cases ys with
    | nil => simp at hl
    | cons y ys =>
      obtain ⟨lx, bx⟩ := hx.cons
      obtain ⟨ly, by'⟩ := hy.cons
      obtain ⟨i1, i2⟩ := ih bx by' (by simpa using hl)
      refine ⟨fun h => ?_, fun k hk h => ?_⟩
      · have h0 := h 0 (by simp)
        have h1 := i1 (fun j hj => by simpa using h (j + 1) (by simpa using hj))
        simp only [val]
        simp at h0
        omega
      · cases k with
        | zero =>
          have h1 := i1 (fun j hj => by simpa using h (j + 1) (by omega) (by simpa using hj))
          simp only [val, List.getD_cons_zero]
          omega
        | succ k =>
          have h1 := i2 k (by simpa using hk) (fun j hj hj' => by simpa using h (j + 1) (by omega) (by simpa using hj'))
          simp only [val, List.getD_cons_succ]
          omega

set_option maxRecDepth 100000 in
set_option maxHeartbeats 2000000 in
theorem compare_ne {w : World} (aa ab : Option Addr) (ca cb n m : Nat) (h : n ≠ m) (hn : n ≤ 140737488351232) (hm : m ≤ 140737488351232) :
    Calls Try.prog 41 #[.slice aa n ca, .slice ab m cb] w fun e w' => e = .returned (.int .i64 (cmpN n m)) ∧ Below w.heap.size w w' := by
  have h2 : ((n : Int) != m) = true := by simp; omega
  go_enter Try.func41, Try.ntmps41
  go_wp2_with (go_at_call 48; refine (cmp64_any n m _).mono ?_; rintro e w' ⟨rfl, rfl⟩)
  go_returns
  exact ⟨rfl, (((Below.refl _ w).alloc (Nat.le_refl _) _).alloc (by simp) _)⟩

/-- compare of digits without zeros at the end. -/
theorem compare_any {w : World} {va vb : Value} {x y : Nat} (ha : Sl w va (digs x)) (hb : Sl w vb (digs y)) (hla : (digs x).length ≤ 140737488351232) (hlb : (digs y).length ≤ 140737488351232) :
    Calls Try.prog 41 #[va, vb] w fun e w' => e = .returned (.int .i64 (cmpN x y)) ∧ Below w.heap.size w w' := by
  obtain ⟨aa, ca, rfl⟩ := ha.mk'
  obtain ⟨ab, cb, rfl⟩ := hb.mk'
  by_cases h : (digs x).length = (digs y).length
  · rw [← h] at hb ⊢
    obtain ⟨c1, c2⟩ := cmp_digits (bd_digs x) (bd_digs y) h
    rw [val_digs, val_digs] at c1 c2
    refine callsIn_wide.1 (compare_eq_in Fence.wide 5 trivial trivial trivial trivial (fun k a b w => callsIn_wide.2 (cmp32_any a b w)) rfl (by omega) ha hb hla _ (fun hj => by rw [c1 hj, cmpN_eq]) (fun k hk hne hj => ?_))
    obtain ⟨d1, d2⟩ := c2 k hk hj
    rcases Nat.lt_or_gt_of_ne hne with h | h
    · rw [cmpN_lt h, cmpN_lt (d1 h)]
    · rw [cmpN_gt h, cmpN_gt (d2 h)]
  · have e : cmpN x y = cmpN (digs x).length (digs y).length := by
      rcases Nat.lt_or_gt_of_ne h with h | h
      · rw [cmpN_lt h, cmpN_lt]
        have h1 := (digs_length_le (n := x) (k := (digs x).length)).1 (Nat.le_refl _)
        exact Nat.lt_of_lt_of_le h1 (Nat.le_of_not_lt fun h2 => by have := digs_length_le.2 h2; omega)
      · rw [cmpN_gt h, cmpN_gt]
        have h1 := (digs_length_le (n := y) (k := (digs y).length)).1 (Nat.le_refl _)
        exact Nat.lt_of_lt_of_le h1 (Nat.le_of_not_lt fun h2 => by have := digs_length_le.2 h2; omega)
    rw [e]
    exact compare_ne aa ab ca cb _ _ h hla hlb

end Go.Proofs.Ytjlneggfkpjnpaa.Nums

namespace Go.Proofs.Ytjlneggfkpjnpaa.Nums
open Go.RowKit

/-- Whether a Num of this sign and these digits is right. -/
def rightB (neg : Bool) (ds : List Nat) : Bool := if ds = [] then !neg else decide (ds.length ≤ 256) && decide (ds.getD (ds.length - 1) 0 ≠ 0)

set_option maxRecDepth 10000 in
set_option maxHeartbeats 400000 in
theorem right_any {w : World} {s : Value} {ds : List Nat} (neg : Bool) (h : Sl w s ds) (hreach : ds.length ≤ 140737488351232) :
    Calls Try.prog 39 #[.agg #[.bool neg, s]] w fun e w' => e = .returned (.bool (rightB neg ds)) ∧ w' = w.alloc (.cells #[.bool neg, s] 54) := by
  obtain ⟨ao, cap, rfl⟩ := h.mk'
  obtain ⟨n, hn⟩ : ∃ n, n = ds.length := ⟨_, rfl⟩
  cases n with
  | zero =>
    obtain rfl : ds = [] := List.eq_nil_of_length_eq_zero hn.symm
    have e0 : rightB neg [] = !neg := rfl
    rw [e0]
    clear e0 hn
    go_enter Try.func39, Try.ntmps39
    go_wp2
    go_ret
    exact ⟨rfl, rfl⟩
  | succ n =>
    rw [← hn] at h hreach ⊢
    obtain ⟨b, off, rfl, hcap, hbs, hcl⟩ := h.at (by omega)
    have hc := hcl n (by omega)
    obtain ⟨x, hx⟩ : ∃ x, x = ds.getD n 0 := ⟨_, rfl⟩
    rw [← hx] at hc
    have e0 : rightB neg ds = (decide (n + 1 ≤ 256) && decide (x ≠ 0)) := by
      unfold rightB
      rw [if_neg (by intro h0; rw [h0] at hn; simp at hn), ← hn, hx]
      rfl
    rw [e0]
    clear e0 hcl hx hn h
    have h4 : ((n : Int) + 1 == 0) = false := by simp; omega
    by_cases h1 : n + 1 ≤ 256
    · by_cases h2 : x = 0
      · subst h2
        go_enter Try.func39, Try.ntmps39
        go_wp2
        go_ret
        exact ⟨by simp, rfl⟩
      · have h3 : ((x : Int) != 0) = true := by simp; omega
        go_enter Try.func39, Try.ntmps39
        go_wp2
        go_ret
        exact ⟨by simp [h1, h2], rfl⟩
    · go_enter Try.func39, Try.ntmps39
      go_wp2
      go_ret
      exact ⟨by simp [h1], rfl⟩

set_option maxHeartbeats 400000 in
theorem made_big (neg : Bool) (ao : Option Addr) (n cap : Nat) (w : World) (h1 : 256 < n) :
    Calls Try.prog 37 #[.bool neg, .slice ao n cap] w fun e w' => e = .returned (.tuple #[.agg #[.bool false, .slice none 0 0], .bool false]) ∧ w' = w.alloc (.cells #[.bool false, .slice none 0 0] 54) := by
  go_enter Try.func37, Try.ntmps37
  go_wp2
  go_returns
  exact ⟨rfl, rfl⟩

set_option maxHeartbeats 400000 in
theorem made_zero (neg : Bool) (ao : Option Addr) (cap : Nat) (w : World) :
    Calls Try.prog 37 #[.bool neg, .slice ao 0 cap] w fun e w' => e = .returned (.tuple #[.agg #[.bool false, .slice none 0 0], .bool true]) ∧ w' = w.alloc (.cells #[.bool false, .slice none 0 0] 54) := by
  go_enter Try.func37, Try.ntmps37
  go_wp2
  go_returns
  exact ⟨rfl, rfl⟩

set_option maxHeartbeats 400000 in
theorem made_ok (neg : Bool) (ao : Option Addr) (n cap : Nat) (w : World) (h1 : n ≤ 256) (h2 : n ≠ 0) :
    Calls Try.prog 37 #[.bool neg, .slice ao n cap] w fun e w' => e = .returned (.tuple #[.agg #[.bool neg, .slice ao n cap], .bool true]) ∧ w' = w.alloc (.cells #[.bool neg, .slice ao n cap] 54) := by
  have h3 : ((n : Int) == 0) = false := by simp; omega
  go_enter Try.func37, Try.ntmps37
  go_wp2
  go_returns
  exact ⟨rfl, rfl⟩

/-- What made makes of a sign and a slice of n digits. -/
def mkN (neg : Bool) (n : Nat) : Bool := if n ≤ 256 ∧ n ≠ 0 then neg else false
def mkA (ao : Option Addr) (n : Nat) : Option Addr := if n ≤ 256 ∧ n ≠ 0 then ao else none
def mkL (n : Nat) : Nat := if n ≤ 256 ∧ n ≠ 0 then n else 0
def mkC (n cap : Nat) : Nat := if n ≤ 256 ∧ n ≠ 0 then cap else 0
def mkK (n : Nat) : Bool := decide (n ≤ 256)

theorem made_any (neg : Bool) (ao : Option Addr) (n cap : Nat) (w : World) :
    Calls Try.prog 37 #[.bool neg, .slice ao n cap] w fun e w' => e = .returned (.tuple #[.agg #[.bool (mkN neg n), .slice (mkA ao n) (mkL n) (mkC n cap)], .bool (mkK n)]) ∧ w' = w.alloc (.cells #[.bool (mkN neg n), .slice (mkA ao n) (mkL n) (mkC n cap)] 54) := by
  by_cases h1 : 256 < n
  · have hn : ¬ (n ≤ 256 ∧ n ≠ 0) := by omega
    have hk : mkK n = false := by unfold mkK; simp; omega
    unfold mkN mkA mkL mkC
    rw [if_neg hn, if_neg hn, if_neg hn, if_neg hn, hk]
    exact made_big neg ao n cap w h1
  · have hk : mkK n = true := by unfold mkK; simp; omega
    rw [hk]
    by_cases h2 : n = 0
    · subst h2
      exact made_zero neg ao cap w
    · have hn : n ≤ 256 ∧ n ≠ 0 := by omega
      unfold mkN mkA mkL mkC
      rw [if_pos hn, if_pos hn, if_pos hn, if_pos hn]
      exact made_ok neg ao n cap w (by omega) h2

def fitsB (n : Nat) : Bool := decide ((digs n).length ≤ 256)

/-- What a function returns that makes a Num of the integer z: the Num, and whether it fits. -/
def NumRes (w : World) (z : Int) (e : Ending) (w' : World) : Prop :=
  ∃ neg ao n cap, e = .returned (.tuple #[.agg #[.bool neg, .slice ao n cap], .bool (fitsB z.natAbs)]) ∧ Below w.heap.size w w' ∧
    (fitsB z.natAbs = true → neg = decide (z < 0) ∧ Sw w.heap.size w' (.slice ao n cap) (digs z.natAbs)) ∧ (fitsB z.natAbs = false → neg = false ∧ ao = none ∧ n = 0 ∧ cap = 0)

theorem Sw.nil (B : Nat) (w : World) (ao : Option Addr) (cap : Nat) : Sw B w (.slice ao 0 cap) [] := ⟨Sl.nil w ao cap, fun ao n cap hv hn => by cases hv; exact absurd rfl hn⟩

/-- Out of made: a Num of the integer, where the sign is right. -/
theorem numRes_made {w W : World} {z : Int} {neg : Bool} {ao : Option Addr} {n cap : Nat} (hb : Below w.heap.size w W) (hn : n = (digs z.natAbs).length) (hneg : z ≠ 0 → neg = decide (z < 0)) (hs : n ≠ 0 → Sw w.heap.size W (.slice ao n cap) (digs z.natAbs)) :
    NumRes w z (.returned (.tuple #[.agg #[.bool (mkN neg n), .slice (mkA ao n) (mkL n) (mkC n cap)], .bool (mkK n)])) W := by
  have hk : mkK n = fitsB z.natAbs := by unfold mkK fitsB; rw [hn]
  refine ⟨_, _, _, _, by rw [hk], hb, fun hf => ?_, fun hf => ?_⟩
  · have hle : n ≤ 256 := by rw [hn]; simpa [fitsB] using hf
    by_cases h0 : n = 0
    · have hz : z = 0 := by
        have : digs z.natAbs = [] := List.eq_nil_of_length_eq_zero (by omega)
        have : z.natAbs = 0 := digs_inj (by rw [this, digs_zero])
        omega
      subst hz
      have hn' : ¬ (n ≤ 256 ∧ n ≠ 0) := by omega
      unfold mkN mkA mkL mkC
      rw [if_neg hn', if_neg hn', if_neg hn', if_neg hn']
      exact ⟨rfl, by rw [show digs (Int.natAbs 0) = [] from digs_zero]; exact Sw.nil _ _ _ _⟩
    · have hn' : n ≤ 256 ∧ n ≠ 0 := ⟨hle, h0⟩
      unfold mkN mkA mkL mkC
      rw [if_pos hn', if_pos hn', if_pos hn', if_pos hn']
      refine ⟨hneg ?_, hs h0⟩
      intro hz
      subst hz
      apply h0
      rw [hn]
      show (digs 0).length = 0
      rw [digs_zero]; rfl
  · have hle : 256 < n := by rw [hn]; simpa [fitsB] using hf
    have hn' : ¬ (n ≤ 256 ∧ n ≠ 0) := by omega
    unfold mkN mkA mkL mkC
    rw [if_neg hn', if_neg hn', if_neg hn', if_neg hn']
    exact ⟨rfl, rfl, rfl, rfl⟩

end Go.Proofs.Ytjlneggfkpjnpaa.Nums
