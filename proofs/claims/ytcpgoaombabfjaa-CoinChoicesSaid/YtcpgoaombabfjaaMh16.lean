/- Contracts of the reference: Fine, in, divides, multiple. Condition: the slices read as ints. Contracts of the reference: Full, more. Condition: the slices read as ints. Contracts of the reference: unevenness, Uneven. Condition: the slices read as ints, at most eight arms. Contracts of the reference: Uneven, Next. Condition: the slices read as ints, at most eight arms. -/
import Derived.Test.YtcpgoaombabfjaaMh3
import Derived.Test.YtcpgoaombabfjaaMh1
import Derived.Test.YtcpgoaombabfjaaMh4
import Derived.Test.YtcpgoaombabfjaaMh6
import Derived.BigQuiet
namespace Go.Proofs.Ytcpgoaombabfjaa
set_option linter.unusedSimpArgs false
set_option linter.unusedVariables false
open Go.RowKit

set_option maxRecDepth 10000 in
set_option maxHeartbeats 4000000 in
theorem rFine_any {W : World} {ar aw : Option Addr} {nr cr nw cw : Nat} {r row : List Int} (hr : nr = r.length) (hw : Ix W (.slice aw nw cw) row) (kd cn cd : Int) :
    Calls Try.prog 29 #[DV kd (.slice ar nr cr) cn cd, .slice aw nw cw] W fun e w' => e = .returned (.bool (fiB r row)) ∧ Below W.heap.size W w' := by
  have hn := hw.size
  have hlen := hw.len
  unfold maxLen at hlen
  have HB := Lib.hid (dbox_below W kd (.slice ar nr cr) cn cd)
  obtain ⟨c0, c1, c2, c3, c4, c5⟩ := (dbox_is W kd (.slice ar nr cr) cn cd).cells
  have HX := Lib.hid (hw.below HB.out)
  have HI := Lib.hid (inB_iff (lo := 0) (hi := 1048575) (l := row))
  have HZ : Hid (fiB r row = (decide (nw = 0) || (decide (nw = nr) && inB 0 1048575 row))) := Lib.hid (by unfold fiB; rw [hr, hn])
  obtain ⟨Z, hZ⟩ : ∃ Z, Z = inB 0 1048575 row := ⟨_, rfl⟩
  rw [← hZ] at HI HZ
  rw [HZ.out]
  rw [← hn] at hlen HI
  clear hr hw hn hZ HZ
  go_enter Try.func29, Try.ntmps29
  by_cases h0 : nw = 0
  · subst h0
    have hz : Hid (Z = true) := Lib.hid (HI.out.2 (fun k hk => by omega))
    go_wp2
    go_loopw [5] (fun kv wr => kv = .int .i64 0 ∧ wr = dbox W kd (.slice ar nr cr) cn cd) (fun _ _ => 0)
    case atStart => exact ⟨rfl, rfl⟩
    case round =>
      obtain ⟨rfl, rfl⟩ := hrel
      go_wp2
      go_ret
      exact ⟨rfl, HB.out⟩
  · have h0I : ¬ (nw : Int) = 0 := by omega
    by_cases h1 : nw = nr
    · have h1I : (nw : Int) = (nr : Int) := by omega
      rw [decide_eq_false h0, decide_eq_true h1, Bool.false_or, Bool.true_and]
      subst h1
      clear h1I
      go_wp2
      go_loopw [5] (fun kv wr => ∃ k : Nat, k ≤ nw ∧ kv = .int .i64 (k : Nat) ∧ Hid (∀ j, j < k → 0 ≤ row.getD j 0 ∧ row.getD j 0 ≤ 1048575) ∧ wr = dbox W kd (.slice ar nw cr) cn cd) (fun kv _ => nw - (intOf kv).toNat)
      case atStart => exact ⟨0, by omega, rfl, Lib.hid (fun j h => by omega), rfl⟩
      case round =>
        obtain ⟨k, hk, rfl, hJ, rfl⟩ := hrel
        by_cases hkn : k = nw
        · have hz : Hid (Z = true) := Lib.hid (HI.out.2 (fun j hj => hJ.out j (by omega)))
          subst hkn
          clear hJ
          go_wp2
          go_ret
          exact ⟨by rw [hz.out]; rfl, HB.out⟩
        · have hlt : k < nw := by omega
          have hltI : (k : Int) < (nw : Int) := by omega
          obtain ⟨b, off, rfl, -, -, -, hcl⟩ := HX.out.at (by omega)
          have hc := hcl k hlt
          obtain ⟨x, hx⟩ : ∃ x, x = row.getD k 0 := ⟨_, rfl⟩
          rw [← hx] at hc
          by_cases hok : 0 ≤ x ∧ x ≤ 1048575
          · have hlo : ¬ x < 0 := by omega
            have hhi : ¬ 1048576 ≤ x := by omega
            have HJ : Hid (∀ j, j < k + 1 → 0 ≤ row.getD j 0 ∧ row.getD j 0 ≤ 1048575) := Lib.hid (fun j hj => by
              by_cases h : j = k
              · subst h; rw [← hx]; exact hok
              · exact hJ.out j (by omega))
            clear hcl hJ hx hok
            go_wp2
            go_roundw
            case rel => exact ⟨k + 1, by omega, by go_num, HJ, by trivial⟩
            case measure => simp [intOf]; omega
          · have hz : Hid (Z = false) := Lib.hid (by
              cases hz : Z with
              | false => rfl
              | true => have := HI.out.1 hz k hlt; rw [← hx] at this; exact absurd this hok)
            by_cases hlo : x < 0
            · clear hcl hJ hx hok
              go_wp2
              go_ret
              exact ⟨by rw [hz.out]; rfl, HB.out⟩
            · have hhi : 1048576 ≤ x := by omega
              clear hcl hJ hx hok
              go_wp2
              go_ret
              exact ⟨by rw [hz.out]; rfl, HB.out⟩
    · have h1I : ¬ (nw : Int) = (nr : Int) := by omega
      rw [decide_eq_false h0, decide_eq_false h1, Bool.false_or, Bool.false_and]
      have b0 : ((nw : Int) != 0) = true := bne_iff_ne.2 h0I
      have b1 : ((nw : Int) != (nr : Int)) = true := bne_iff_ne.2 h1I
      go_wp2
      go_ret
      exact ⟨rfl, HB.out⟩

set_option maxRecDepth 10000 in
set_option maxHeartbeats 4000000 in
theorem rIn_any {W : World} {ao : Option Addr} {n cap : Nat} {l : List Int} (hl : Ix W (.slice ao n cap) l) (x : Int) :
    Calls Try.prog 38 #[.slice ao n cap, .int .i64 x] W fun e w' => e = .returned (.bool (decide (x ∈ l))) ∧ Below W.heap.size W w' := by
  have hn := hl.size
  have hlen := hl.len
  unfold maxLen at hlen
  have HM : Hid (x ∈ l ↔ ∃ j, j < n ∧ l.getD j 0 = x) := Lib.hid (by
    rw [hn]
    constructor
    · intro h
      obtain ⟨j, hj, e⟩ := List.getElem_of_mem h
      exact ⟨j, hj, by simp [List.getD, hj, e]⟩
    · rintro ⟨j, hj, e⟩
      rw [← e]; simp [List.getD, hj])
  have HX := Lib.hid hl
  obtain ⟨Z, hZ⟩ : ∃ Z, Z = decide (x ∈ l) := ⟨_, rfl⟩
  have HZ := Lib.hid hZ
  rw [← hZ]
  rw [← hn] at hlen
  clear hl hn hZ
  go_enter Try.func38, Try.ntmps38
  go_wp2
  go_loopw [5] (fun kv wr => ∃ k : Nat, k ≤ n ∧ kv = .int .i64 (k : Nat) ∧ Hid (∀ j, j < k → l.getD j 0 ≠ x) ∧ wr = W) (fun kv _ => n - (intOf kv).toNat)
  case atStart => exact ⟨0, by omega, rfl, Lib.hid (fun j h => by omega), rfl⟩
  case round =>
    obtain ⟨k, hk, rfl, hJ, rfl⟩ := hrel
    by_cases hkn : k = n
    · have hz : Hid (Z = false) := Lib.hid (by rw [HZ.out, decide_eq_false]; rw [HM.out]; rintro ⟨j, hj, e⟩; exact hJ.out j (by omega) e)
      subst hkn
      clear hJ
      go_wp2
      go_ret
      exact ⟨by rw [hz.out]; rfl, Below.refl _ _⟩
    · have hlt : k < n := by omega
      have hltI : (k : Int) < (n : Int) := by omega
      obtain ⟨b, off, rfl, -, -, -, hcl⟩ := HX.out.at (by omega)
      have hc := hcl k hlt
      obtain ⟨y, hy⟩ : ∃ y, y = l.getD k 0 := ⟨_, rfl⟩
      rw [← hy] at hc
      by_cases he : y = x
      · have hz : Hid (Z = true) := Lib.hid (by rw [HZ.out, decide_eq_true]; rw [HM.out]; exact ⟨k, hlt, by rw [← hy, he]⟩)
        clear hcl hJ hy
        subst he
        go_wp2
        go_ret
        exact ⟨by rw [hz.out]; rfl, Below.refl _ _⟩
      · have HJ : Hid (∀ j, j < k + 1 → l.getD j 0 ≠ x) := Lib.hid (fun j hj => by
          by_cases h : j = k
          · subst h; rw [← hy]; exact he
          · exact hJ.out j (by omega))
        clear hcl hJ hy
        go_wp2
        go_roundw
        case rel => exact ⟨k + 1, by omega, by go_num, HJ, by trivial⟩
        case measure => simp [intOf]; omega

theorem mulN_iff {r : List Int} {m : Nat} : ∀ {k : Nat}, mulN r k ∣ m ↔ ∀ j, j < k → 0 < r.getD j 0 → (r.getD j 0).toNat ∣ m
  | 0 => by simp [mulN]
  | k + 1 => by
    have ih := mulN_iff (r := r) (m := m) (k := k)
    rw [mulN]
    by_cases hp : 0 < r.getD k 0
    · rw [if_pos hp, Nat.lcm_dvd_iff, ih]
      constructor
      · rintro ⟨h1, h2⟩ j hj hjp
        by_cases e : j = k
        · subst e; exact h2
        · exact h1 j (by omega) hjp
      · intro h
        exact ⟨fun j hj hjp => h j (by omega) hjp, h k (by omega) hp⟩
    · rw [if_neg hp, ih]
      constructor
      · intro h j hj hjp
        by_cases e : j = k
        · subst e; exact absurd hjp hp
        · exact h j (by omega) hjp
      · intro h j hj hjp
        exact h j (by omega) hjp

set_option maxRecDepth 10000 in
set_option maxHeartbeats 4000000 in
theorem rDivides_any {W : World} {ar : Option Addr} {nr cr : Nat} {r : List Int} (hr : Ix W (.slice ar nr cr) r) (kd cn cd : Int) (m : Nat) :
    Calls Try.prog 57 #[DV kd (.slice ar nr cr) cn cd, .int .i64 (m : Int)] W fun e w' => e = .returned (.bool (decide (mulN r r.length ∣ m))) ∧ Below W.heap.size W w' := by
  have hn := hr.size
  have hlen := hr.len
  unfold maxLen at hlen
  have HB := Lib.hid (dbox_below W kd (.slice ar nr cr) cn cd)
  obtain ⟨c0, c1, c2, c3, c4, c5⟩ := (dbox_is W kd (.slice ar nr cr) cn cd).cells
  have HX := Lib.hid (hr.below HB.out)
  have HI := Lib.hid (mulN_iff (r := r) (m := m) (k := r.length))
  obtain ⟨Z, hZ⟩ : ∃ Z, Z = decide (mulN r r.length ∣ m) := ⟨_, rfl⟩
  have HZ := Lib.hid hZ
  rw [← hZ]
  rw [← hn] at hlen HI HZ
  clear hr hn hZ
  go_enter Try.func57, Try.ntmps57
  go_wp2
  go_loopw [5] (fun kv wr => ∃ k : Nat, k ≤ nr ∧ kv = .int .i64 (k : Nat) ∧ Hid (∀ j, j < k → 0 < r.getD j 0 → (r.getD j 0).toNat ∣ m) ∧ wr = dbox W kd (.slice ar nr cr) cn cd) (fun kv _ => nr - (intOf kv).toNat)
  case atStart => exact ⟨0, by omega, rfl, Lib.hid (fun j h => by omega), rfl⟩
  case round =>
    obtain ⟨k, hk, rfl, hJ, rfl⟩ := hrel
    by_cases hkn : k = nr
    · have hz : Hid (Z = true) := Lib.hid (by rw [HZ.out, decide_eq_true (HI.out.2 (fun j hj => hJ.out j (by omega)))])
      subst hkn
      clear hJ
      go_wp2
      go_ret
      exact ⟨by rw [hz.out]; rfl, HB.out⟩
    · have hlt : k < nr := by omega
      have hltI : (k : Int) < (nr : Int) := by omega
      obtain ⟨b, off, rfl, -, -, -, hcl⟩ := HX.out.at (by omega)
      have hc := hcl k hlt
      obtain ⟨x, hx⟩ : ∃ x, x = r.getD k 0 := ⟨_, rfl⟩
      rw [← hx] at hc
      by_cases hp : 0 < x
      · obtain ⟨p, hpe⟩ : ∃ p : Nat, (p : Int) = x := ⟨x.toNat, by omega⟩
        have ht : (m : Int).tmod (p : Int) = ((m % p : Nat) : Int) := by rw [Int.tmod_eq_emod_of_nonneg (by omega)]; rfl
        have hp0 : ¬ (p : Int) = 0 := by omega
        by_cases hd : p ∣ m
        · have hz : (m : Int).tmod (p : Int) = 0 := by rw [ht, Nat.mod_eq_zero_of_dvd hd]; rfl
          have hz2 : (m : Int) % (p : Int) = 0 := by have := Nat.mod_eq_zero_of_dvd hd; omega
          have HJ : Hid (∀ j, j < k + 1 → 0 < r.getD j 0 → (r.getD j 0).toNat ∣ m) := Lib.hid (fun j hj h9 => by
            by_cases h : j = k
            · subst h; rw [← hx, ← hpe]; simpa using hd
            · exact hJ.out j (by omega) h9)
          clear hcl hJ hx hd ht
          rw [← hpe] at hc hp
          clear hpe
          go_wp2
          go_roundw
          case rel => exact ⟨k + 1, by omega, by go_num, HJ, by trivial⟩
          case measure => simp [intOf]; omega
        · have hz : ¬ (m : Int).tmod (p : Int) = 0 := by
            rw [ht]; intro h; exact hd (Nat.dvd_of_mod_eq_zero (by omega))
          have hz2 : ¬ (m : Int) % (p : Int) = 0 := by
            intro h; exact hd (Nat.dvd_of_mod_eq_zero (by omega))
          have hzz : Hid (Z = false) := Lib.hid (by rw [HZ.out, decide_eq_false]; rw [HI.out]; intro h; have := h k hlt (by rw [← hx]; exact hp); rw [← hx, ← hpe] at this; exact hd (by simpa using this))
          clear hcl hJ hx hd ht
          rw [← hpe] at hc hp
          clear hpe
          go_wp2
          go_ret
          exact ⟨by rw [hzz.out]; rfl, HB.out⟩
      · have HJ : Hid (∀ j, j < k + 1 → 0 < r.getD j 0 → (r.getD j 0).toNat ∣ m) := Lib.hid (fun j hj h9 => by
          by_cases h : j = k
          · subst h; rw [← hx] at h9; exact absurd h9 hp
          · exact hJ.out j (by omega) h9)
        clear hcl hJ hx
        go_wp2
        go_roundw
        case rel => exact ⟨k + 1, by omega, by go_num, HJ, by trivial⟩
        case measure => simp [intOf]; omega

set_option maxRecDepth 10000 in
set_option maxHeartbeats 4000000 in
theorem rMultiple_any {W : World} {ar : Option Addr} {nr cr : Nat} {r : List Int} (hr : Ix W (.slice ar nr cr) r) (h8 : ∀ k, r.getD k 0 ≤ 8) (kd cn cd : Int) :
    Calls Try.prog 47 #[DV kd (.slice ar nr cr) cn cd] W fun e w' => e = .returned (.int .i64 (mulN r r.length : Nat)) ∧ Below W.heap.size W w' := by
  have HB := Lib.hid (dbox_below W kd (.slice ar nr cr) cn cd)
  have HDX : Hid (∀ w', Below (W.alloc (.cells #[.int .i64 kd, .slice ar nr cr, .slice none 0 0, .int .i64 0, .int .i64 cn, .int .i64 cd] 30)).heap.size (W.alloc (.cells #[.int .i64 kd, .slice ar nr cr, .slice none 0 0, .int .i64 0, .int .i64 cn, .int .i64 cd] 30)) w' → DBox w' W.heap.size kd (.slice ar nr cr) cn cd) := Lib.hid (fun w' hb => (dbox_is W kd (.slice ar nr cr) cn cd).below hb)
  have HX := Lib.hid (hr.below HB.out)
  have HDV : Hid (∀ (w' : World) (m : Nat), Below (W.alloc (.cells #[.int .i64 kd, .slice ar nr cr, .slice none 0 0, .int .i64 0, .int .i64 cn, .int .i64 cd] 30)).heap.size (W.alloc (.cells #[.int .i64 kd, .slice ar nr cr, .slice none 0 0, .int .i64 0, .int .i64 cn, .int .i64 cd] 30)) w' → Calls Try.prog 57 #[DV kd (.slice ar nr cr) cn cd, .int .i64 (m : Int)] w' fun e w2 => e = .returned (.bool (decide (mulN r r.length ∣ m))) ∧ Below w'.heap.size w' w2) := Lib.hid (fun w' m hb => rDivides_any (HX.out.below hb) kd cn cd m)
  have hM := mulN_le h8 r.length
  have hM0 := mulN_pos (r := r) r.length
  obtain ⟨M, hMM⟩ : ∃ M, M = mulN r r.length := ⟨_, rfl⟩
  rw [← hMM] at hM hM0 HDV ⊢
  have HBD : Hid (∀ w', Below (W.alloc (.cells #[.int .i64 kd, .slice ar nr cr, .slice none 0 0, .int .i64 0, .int .i64 cn, .int .i64 cd] 30)).heap.size (W.alloc (.cells #[.int .i64 kd, .slice ar nr cr, .slice none 0 0, .int .i64 0, .int .i64 cn, .int .i64 cd] 30)) w' → Below W.heap.size W w') := Lib.hid (fun w' hb => HB.out.trans (hb.mono HB.out.size))
  clear hr hMM h8
  go_enter Try.func47, Try.ntmps47
  go_wp2
  generalize (W.alloc (.cells #[.int .i64 kd, .slice ar nr cr, .slice none 0 0, .int .i64 0, .int .i64 cn, .int .i64 cd] 30)) = W0 at *
  go_loopw [3] (fun kv wr => ∃ m : Nat, (1 ≤ m ∧ m ≤ M) ∧ kv = .int .i64 (m : Nat) ∧ Hid (Below W0.heap.size W0 wr)) (fun kv _ => M - (intOf kv).toNat)
  case atStart => exact ⟨1, by omega, rfl, Lib.hid (Below.refl _ _)⟩
  case round =>
    obtain ⟨w, hw⟩ : ∃ w, w = wr := ⟨_, rfl⟩
    subst hw
    obtain ⟨m, hm, rfl, HBL⟩ := hrel
    obtain ⟨c0, c1, c2, c3, c4, c5⟩ := (HDX.out _ HBL.out).cells
    by_cases hmM : m = M
    · subst hmM
      have HC : Hid (Calls Try.prog 57 #[DV kd (.slice ar nr cr) cn cd, .int .i64 (m : Int)] w fun e w2 => e = .returned (.bool true) ∧ Below w.heap.size w w2) := Lib.hid (by have h := HDV.out w m HBL.out; rwa [decide_eq_true (Nat.dvd_refl _)] at h)
      go_wp2_with (go_at_call 57; (with_reducible refine HC.out.mono ?_); rintro e w2 ⟨rfl, hb⟩; have HB2 := Lib.hid (HBL.out.trans (hb.mono HBL.out.size)); clear hb)
      go_ret
      exact ⟨rfl, HBD.out _ HB2.out⟩
    · have hnd : ¬ M ∣ m := fun h => by have := Nat.le_of_dvd (by omega) h; omega
      have HC : Hid (Calls Try.prog 57 #[DV kd (.slice ar nr cr) cn cd, .int .i64 (m : Int)] w fun e w2 => e = .returned (.bool false) ∧ Below w.heap.size w w2) := Lib.hid (by have h := HDV.out w m HBL.out; rwa [decide_eq_false hnd] at h)
      clear hnd
      go_wp2_with (go_at_call 57; (with_reducible refine HC.out.mono ?_); rintro e w2 ⟨rfl, hb⟩; have HB2 := Lib.hid (HBL.out.trans (hb.mono HBL.out.size)); clear hb)
      go_roundw
      case rel => exact ⟨m + 1, by omega, by go_num, HB2⟩
      case measure => simp [intOf]; omega

end Go.Proofs.Ytcpgoaombabfjaa

namespace Go.Proofs.Ytcpgoaombabfjaa
set_option linter.unusedSimpArgs false
set_option linter.unusedVariables false
open Go.RowKit
attribute [local go_sem ↓] appI_rw

set_option maxRecDepth 10000 in
set_option maxHeartbeats 1000000 in
theorem rFull_any {W : World} {ar aw : Option Addr} {nr cr nw cw : Nat} {r row : List Int} (hr : nr = r.length) (hw : Ix W (.slice aw nw cw) row) (lr : r.length ≤ 8) (lw : nw ≤ 8) (kd cn cd : Int) :
    Calls Try.prog 31 #[DV kd (.slice ar nr cr) cn cd, .slice aw nw cw] W fun e w' => ∃ ao n cap, e = .returned (.slice ao n cap) ∧ OwI w' W.heap.size (.slice ao n cap) n (unV r row) ∧ Below W.heap.size W w' := by
  have hnw := hw.size
  have HB0 := Lib.hid (dbox_below W kd (.slice ar nr cr) cn cd)
  obtain ⟨c0, c1, c2, c3, c4, c5⟩ := DBox.cells (dbox_is W kd (.slice ar nr cr) cn cd)
  unfold unV
  rw [← hr, ← hnw]
  rw [← hr] at lr
  by_cases h0 : nw = 0
  · rw [if_pos h0]
    subst h0
    obtain ⟨W1, hW1⟩ : ∃ W1, W1 = dbox W kd (.slice ar nr cr) cn cd := ⟨_, rfl⟩
    have hmk := make_run nr (by omega) W1
    have hms : W.heap.size ≤ W1.heap.size := by rw [hW1]; exact HB0.out.size
    have HO := Lib.hid (owns_mono (made_own nr (by omega) W1) hms)
    have HB : Hid (Below W.heap.size W (W1.alloc (.cells (ints (List.replicate nr 0)).toArray 3))) := Lib.hid (by rw [hW1]; exact HB0.out.alloc (by simp) _)
    rw [hW1] at hmk HO HB
    clear hr hw hnw hW1 hms
    go_enter Try.func31, Try.ntmps31
    go_wp2
    go_ret
    exact ⟨_, _, _, rfl, by have := HO.out; rw [dbox_size] at this; exact this, HB.out⟩
  · rw [if_neg h0]
    obtain ⟨ao2, cap2, w2, hrun, ho, hb⟩ := clone_run (hw.below HB0.out) (by omega)
    have HO := Lib.hid (owns_mono ho HB0.out.size)
    have HB := Lib.hid (HB0.out.trans (hb.mono HB0.out.size))
    have h1 : ¬ (nw : Int) = 0 := by omega
    rw [dbox_size] at hrun
    simp only [dbox] at hrun
    clear hr hw hnw ho hb
    go_enter Try.func31, Try.ntmps31
    go_wp2
    go_ret
    exact ⟨_, _, _, rfl, HO.out, HB.out⟩

set_option maxRecDepth 10000 in
set_option maxHeartbeats 1000000 in
theorem rMore_any {W : World} {ao : Option Addr} {n cap : Nat} {l : List Int} (hX : Ix W (.slice ao n cap) l) {k : Nat} (hk : k < n) (hn : n ≤ 1000) (hl : 0 ≤ l.getD k 0 ∧ l.getD k 0 ≤ 1048576) :
    Calls Try.prog 33 #[.slice ao n cap, .int .i64 (k : Int)] W fun e w' => ∃ ao2 cap2, e = .returned (.slice ao2 n cap2) ∧ OwI w' W.heap.size (.slice ao2 n cap2) n (mor l k) ∧ Below W.heap.size W w' := by
  obtain ⟨ao2, cap2, w1, hrun, ho, hb⟩ := clone_run hX hn
  have hw : IntKind.i64.wrap (l.getD k 0 + 1) = l.getD k 0 + 1 := IntWalk.i64_in _ (by omega)
  unfold mor
  obtain ⟨g, cap3, he, h1, h2, h3, h4, h5, h6⟩ := ho.parts (by omega)
  obtain ⟨rfl, rfl⟩ : ao2 = some ⟨g, 0, none⟩ ∧ cap2 = cap3 := (by injection he with e1 e2 e3; exact ⟨e1, e3⟩)
  have hc := h4 k hk
  have hfr := h5 k
  obtain ⟨x, hx⟩ : ∃ x, x = l.getD k 0 := ⟨_, rfl⟩
  have HX := Lib.hid hx
  rw [← hx] at hw hl hc ⊢
  have HO := Lib.hid (h6 k (x + 1) hk)
  have HB : Hid (Below W.heap.size W (w1.setCell ⟨g, k, none⟩ (.int .i64 (x + 1)))) := Lib.hid (hb.setCell h2 _)
  have hlI : (k : Int) < (n : Int) := by omega
  clear hx hX ho hb he h1 h2 h4 h5 h6
  go_enter Try.func33, Try.ntmps33
  go_wp2
  go_ret
  exact ⟨_, _, rfl, HO.out, HB.out⟩

end Go.Proofs.Ytcpgoaombabfjaa

namespace Go.Proofs.Ytcpgoaombabfjaa
set_option linter.unusedSimpArgs false
set_option linter.unusedVariables false
open Go.RowKit Go.Shelf

/-- The least, the greatest load so far. -/
def lowN (r l : List Int) (m : Nat) : Nat → Int
  | 0 => -1
  | k + 1 => if 0 < r.getD k 0 then (if lowN r l m k < 0 ∨ load r l m k < lowN r l m k then load r l m k else lowN r l m k) else lowN r l m k
def highN (r l : List Int) (m : Nat) : Nat → Int
  | 0 => 0
  | k + 1 => if 0 < r.getD k 0 then max (highN r l m k) (load r l m k) else highN r l m k

theorem max_snoc {L : List Int} (h : L ≠ []) (x : Int) : maxL (L ++ [x]) = max (maxL L) x := by
  cases L with
  | nil => exact absurd rfl h
  | cons a t => simp [maxL, List.foldl_append]
theorem min_snoc {L : List Int} (h : L ≠ []) (x : Int) : minL (L ++ [x]) = min (minL L) x := by
  cases L with
  | nil => exact absurd rfl h
  | cons a t => simp [minL, List.foldl_append]

theorem low_high {r l : List Int} {m : Nat} (h : ∀ k, 0 < r.getD k 0 → 0 ≤ load r l m k) : ∀ k, (ldN r l m k = [] ∧ lowN r l m k = -1 ∧ highN r l m k = 0) ∨ (ldN r l m k ≠ [] ∧ lowN r l m k = minL (ldN r l m k) ∧ highN r l m k = maxL (ldN r l m k) ∧ 0 ≤ minL (ldN r l m k))
  | 0 => .inl ⟨rfl, rfl, rfl⟩
  | k + 1 => by
    have ih := low_high h k
    rw [ldN, lowN, highN]
    by_cases hp : 0 < r.getD k 0
    · right
      rw [if_pos hp, if_pos hp, if_pos hp]
      have hk := h k hp
      generalize load r l m k = x at *
      rcases ih with ⟨e1, e2, e3⟩ | ⟨e1, e2, e3, e4⟩
      · rw [e1, e2, e3, if_pos (.inl (by decide))]
        refine ⟨by simp, rfl, ?_, hk⟩
        show max 0 x = x
        omega
      · rw [max_snoc e1, min_snoc e1, e2, e3]
        refine ⟨by simp, ?_, rfl, by omega⟩
        by_cases hx : x < minL (ldN r l m k)
        · rw [if_pos (.inr hx)]; omega
        · rw [if_neg (by omega)]; omega
    · rw [if_neg hp, if_neg hp, if_neg hp, List.append_nil]
      exact ih

set_option maxRecDepth 100000 in
set_option maxHeartbeats 4000000 in
theorem rUnevenness_any {W : World} {ar al : Option Addr} {nr cr nl cl : Nat} {r l : List Int} (hr : Ix W (.slice ar nr cr) r) (hl : Ix W (.slice al nl cl) l) (hp : prB r = true) (hlr : l.length = r.length) (hl20 : ∀ k, 0 ≤ l.getD k 0 ∧ l.getD k 0 ≤ 1048576) (kd cn cd : Int) :
    Calls Try.prog 30 #[DV kd (.slice ar nr cr) cn cd, .slice al nl cl] W fun e w' => e = .returned (.int .i64 (unev r l)) ∧ Below W.heap.size W w' := by
  have HB := Lib.hid (dbox_below W kd (.slice ar nr cr) cn cd)
  have h6 := (prB_iff.1 hp).1
  have h8 := fun k => (prB_all hp k).2
  have HML := Lib.hid (rMultiple_any (hr.below HB.out) h8 kd cn cd)
  have hnr := hr.size
  have hnl := hl.size
  have hU := unev_in hp hl20
  have hm := mulN_le h8 r.length
  obtain ⟨M, hM⟩ : ∃ M, M = mulN r r.length := ⟨_, rfl⟩
  rw [← hM] at HML hm
  have HLO : Hid (∀ k, 0 < r.getD k 0 → 0 ≤ load r l M k ∧ load r l M k ≤ 880803840) := Lib.hid (fun k h => load_in h hm (hl20 k))
  have hlh := low_high (fun k h => (HLO.out k h).1) (m := M) nr
  have hne := ld_ne (l := l) (m := M) hp
  rw [← hnr] at hne
  have HEN : Hid (highN r l M nr - lowN r l M nr = unev r l) := Lib.hid (by
    rcases hlh with ⟨e, _⟩ | ⟨_, e2, e3, _⟩
    · exact absurd e hne
    · rw [e2, e3, hnr, hM]; rfl)
  have HBB : Hid (∀ k, (-1 ≤ lowN r l M k ∧ lowN r l M k ≤ 880803840) ∧ (0 ≤ highN r l M k ∧ highN r l M k ≤ 880803840)) := Lib.hid (fun k => by
    induction k with
    | zero => simp [lowN, highN]
    | succ k ih =>
      rw [lowN, highN]
      by_cases h : 0 < r.getD k 0
      · have := HLO.out k h
        rw [if_pos h, if_pos h]
        split <;> omega
      · rw [if_neg h, if_neg h]; exact ih)
  have HX : Hid (∀ w', Below (W.alloc (.cells #[.int .i64 kd, .slice ar nr cr, .slice none 0 0, .int .i64 0, .int .i64 cn, .int .i64 cd] 30)).heap.size (W.alloc (.cells #[.int .i64 kd, .slice ar nr cr, .slice none 0 0, .int .i64 0, .int .i64 cn, .int .i64 cd] 30)) w' → Ix w' (.slice ar nr cr) r ∧ Ix w' (.slice al nl cl) l ∧ DBox w' W.heap.size kd (.slice ar nr cr) cn cd ∧ Below W.heap.size W w') := Lib.hid (fun w' hb => ⟨(hr.below HB.out).below hb, (hl.below HB.out).below hb, (dbox_is W kd (.slice ar nr cr) cn cd).below hb, HB.out.trans (hb.mono HB.out.size)⟩)
  have HR8 : Hid (∀ k, r.getD k 0 ≤ 8) := Lib.hid h8
  have HL20 := Lib.hid hl20
  have hnn : nl = nr := by omega
  have hn6 : nr ≤ 6 := by omega
  obtain ⟨c0, c1, c2, c3, c4, c5⟩ := (dbox_is W kd (.slice ar nr cr) cn cd).cells
  obtain ⟨U, hUU⟩ : ∃ U, U = unev r l := ⟨_, rfl⟩
  rw [← hUU] at HEN hU ⊢
  subst hnn
  clear hr hl hp hlr hl20 h6 h8 hnr hnl hM hlh hne hUU HB
  go_enter Try.func30, Try.ntmps30
  go_wp2_with (go_at_call 47; (with_reducible refine HML.out.mono ?_); rintro e w1 ⟨rfl, hb1⟩; have HB1 := Lib.hid hb1; clear hb1)
  clear c0 c1 c2 c3 c4 c5
  have HXB : Hid (∀ w', Below w1.heap.size w1 w' → Ix w' (.slice ar nl cr) r ∧ Ix w' (.slice al nl cl) l ∧ DBox w' W.heap.size kd (.slice ar nl cr) cn cd ∧ Below W.heap.size W w') := Lib.hid (fun w' hb => HX.out w' (HB1.out.trans (hb.mono HB1.out.size)))
  clear HX HML HB1
  go_loopw [6, 7, 8, 9] (fun lo hi kv _ wr => ∃ (k : Nat) (a b : Int), k ≤ nl ∧ kv = .int .i64 (k : Nat) ∧ lo = .int .i64 a ∧ hi = .int .i64 b ∧ Hid (a = lowN r l M k ∧ b = highN r l M k) ∧ Hid (Below w1.heap.size w1 wr)) (fun _ _ kv _ _ => nl - (intOf kv).toNat)
  case atStart => exact ⟨0, -1, 0, by omega, rfl, rfl, rfl, Lib.hid ⟨rfl, rfl⟩, Lib.hid (Below.refl _ _)⟩
  case round =>
    obtain ⟨w, hw⟩ : ∃ w, w = wr := ⟨_, rfl⟩
    subst hw
    obtain ⟨k, a, b, hk, rfl, rfl, rfl, HAB, HBL⟩ := hrel
    by_cases hkn : k = nl
    · subst hkn
      have e1 := HAB.out.1
      have e2 := HAB.out.2
      have e3 := HEN.out
      rw [← e1, ← e2] at e3
      have wz : IntKind.i64.wrap (b - a) = U := by rw [e3]; exact IntWalk.i64_in _ (by omega)
      clear e1 e2 e3
      go_wp2
      go_ret
      exact ⟨by first | rfl | rw [← wz], (HXB.out _ HBL.out).2.2.2⟩
    · have hlt : k < nl := by omega
      have hltI : (k : Int) < (nl : Int) := by omega
      obtain ⟨hx1, hx2, hx3, -⟩ := HXB.out w HBL.out
      obtain ⟨d0, d1, d2, d3, d4, d5⟩ := hx3.cells
      obtain ⟨br, fr, rfl, -, -, -, hcr⟩ := hx1.at (by omega)
      obtain ⟨bl, fl, rfl, -, -, -, hcl⟩ := hx2.at (by omega)
      have c1 := hcr k hlt
      have c2 := hcl k hlt
      obtain ⟨x, hx⟩ : ∃ x, x = r.getD k 0 := ⟨_, rfl⟩
      obtain ⟨u, hu⟩ : ∃ u, u = l.getD k 0 := ⟨_, rfl⟩
      rw [← hx] at c1
      rw [← hu] at c2
      have hbb := HBB.out k
      rw [← HAB.out.1, ← HAB.out.2] at hbb
      by_cases hp : 0 < x
      · obtain ⟨D, hD⟩ : ∃ D, D = (M : Int) / x := ⟨_, rfl⟩
        have htd : (M : Int).tdiv x = D := by rw [hD]; exact Int.tdiv_eq_ediv_of_nonneg (by omega)
        have hxb : x ≤ 8 := by rw [hx]; exact HR8.out k
        have hDb : 0 ≤ D ∧ D ≤ 840 := by
          rw [hD]
          exact ⟨Int.ediv_nonneg (by omega) (by omega), Int.le_trans (Int.ediv_le_self _ (by omega)) (by omega)⟩
        have hx0 : ¬ x = 0 := by omega
        have wD : IntKind.i64.wrap D = D := IntWalk.i64_in _ (by omega)
        obtain ⟨y, hy⟩ : ∃ y, y = u * D := ⟨_, rfl⟩
        have hyl : y = load r l M k := by rw [hy, hu, hD, hx]; rfl
        have hyb := HLO.out k (by rw [← hx]; exact hp)
        rw [← hyl] at hyb
        have wy : IntKind.i64.wrap (u * D) = y := by rw [← hy]; exact IntWalk.i64_in _ (by omega)
        have HN : Hid (lowN r l M (k + 1) = (if a < 0 ∨ y < a then y else a) ∧ highN r l M (k + 1) = max b y) := Lib.hid (by have hpr : 0 < r.getD k 0 := (by rw [← hx]; exact hp); rw [lowN, highN, if_pos hpr, if_pos hpr, ← hyl, ← HAB.out.1, ← HAB.out.2]; exact ⟨rfl, rfl⟩)
        clear hcr hcl hx1 hx2 hx3 hx hu hD hDb hy hyl HAB
        by_cases ha : a < 0
        · have HN2 : Hid (y = lowN r l M (k + 1) ∧ max b y = highN r l M (k + 1)) := Lib.hid (by rw [HN.out.1, HN.out.2, if_pos (.inl ha)]; exact ⟨rfl, rfl⟩)
          go_upto_region 8 with fail
          go_quiet (fail)
          go_wp2
          go_roundw
          case rel => exact ⟨k + 1, _, _, by omega, by go_num, rfl, rfl, HN2, Lib.hid (HBL.out.trans ⟨rfl, rfl, rfl, Nat.le_refl _, fun _ _ => rfl⟩)⟩
          case measure => simp [intOf]; omega
        · by_cases hy2 : y < a
          · have HN2 : Hid (y = lowN r l M (k + 1) ∧ max b y = highN r l M (k + 1)) := Lib.hid (by rw [HN.out.1, HN.out.2, if_pos (.inr hy2)]; exact ⟨rfl, rfl⟩)
            go_upto_region 8 with fail
            go_quiet (fail)
            go_wp2
            go_roundw
            case rel => exact ⟨k + 1, _, _, by omega, by go_num, rfl, rfl, HN2, Lib.hid (HBL.out.trans ⟨rfl, rfl, rfl, Nat.le_refl _, fun _ _ => rfl⟩)⟩
            case measure => simp [intOf]; omega
          · have HN2 : Hid (a = lowN r l M (k + 1) ∧ max b y = highN r l M (k + 1)) := Lib.hid (by rw [HN.out.1, HN.out.2, if_neg (by omega)]; exact ⟨rfl, rfl⟩)
            go_upto_region 8 with fail
            go_quiet (fail)
            go_wp2
            go_roundw
            case rel => exact ⟨k + 1, _, _, by omega, by go_num, rfl, rfl, HN2, Lib.hid (HBL.out.trans ⟨rfl, rfl, rfl, Nat.le_refl _, fun _ _ => rfl⟩)⟩
            case measure => simp [intOf]; omega
      · have HN2 : Hid (a = lowN r l M (k + 1) ∧ b = highN r l M (k + 1)) := Lib.hid (by have hpr : ¬ 0 < r.getD k 0 := (by rw [← hx]; exact hp); rw [lowN, highN, if_neg hpr, if_neg hpr]; exact HAB.out)
        clear hcr hcl hx1 hx2 hx3 hx hu HAB
        go_wp2
        go_roundw
        case rel => exact ⟨k + 1, _, _, by omega, by go_num, rfl, rfl, HN2, HBL⟩
        case measure => simp [intOf]; omega

end Go.Proofs.Ytcpgoaombabfjaa

namespace Go.Proofs.Ytcpgoaombabfjaa
set_option linter.unusedSimpArgs false
set_option linter.unusedVariables false
open Go.RowKit Go.Shelf

set_option maxRecDepth 100000 in
set_option maxHeartbeats 4000000 in
theorem rUneven_any {W : World} {ar aw : Option Addr} {nr cr nw cw : Nat} {r row : List Int} (hr : Ix W (.slice ar nr cr) r) (hw : Ix W (.slice aw nw cw) row) (lr : r.length ≤ 8) (kd cn cd : Int) :
    Calls Try.prog 13 #[DV kd (.slice ar nr cr) cn cd, .slice aw nw cw] W fun e w' => e = .returned (.int .i64 (uneV r row)) ∧ Below W.heap.size W w' := by
  have hB0 := dbox_below W kd (.slice ar nr cr) cn cd
  have HBB : Hid (∀ w', Below (W.alloc (.cells #[.int .i64 kd, .slice ar nr cr, .slice none 0 0, .int .i64 0, .int .i64 cn, .int .i64 cd] 30)).heap.size (W.alloc (.cells #[.int .i64 kd, .slice ar nr cr, .slice none 0 0, .int .i64 0, .int .i64 cn, .int .i64 cd] 30)) w' → Below W.heap.size W w') := Lib.hid (fun w' hb => hB0.trans (hb.mono hB0.size))
  have HS : Hid (∀ w', Below (W.alloc (.cells #[.int .i64 kd, .slice ar nr cr, .slice none 0 0, .int .i64 0, .int .i64 cn, .int .i64 cd] 30)).heap.size (W.alloc (.cells #[.int .i64 kd, .slice ar nr cr, .slice none 0 0, .int .i64 0, .int .i64 cn, .int .i64 cd] 30)) w' → w'.cell? ⟨W.heap.size, 0, none⟩ = some (.int .i64 kd) ∧ w'.cell? ⟨W.heap.size, 1, none⟩ = some (.slice ar nr cr) ∧ w'.cell? ⟨W.heap.size, 2, none⟩ = some (.slice none 0 0) ∧ w'.cell? ⟨W.heap.size, 3, none⟩ = some (.int .i64 0) ∧ w'.cell? ⟨W.heap.size, 4, none⟩ = some (.int .i64 cn) ∧ w'.cell? ⟨W.heap.size, 5, none⟩ = some (.int .i64 cd)) := Lib.hid (fun w' hb => ((dbox_is W kd (.slice ar nr cr) cn cd).below hb).cells)
  have HPR : Hid (∀ w', Below (W.alloc (.cells #[.int .i64 kd, .slice ar nr cr, .slice none 0 0, .int .i64 0, .int .i64 cn, .int .i64 cd] 30)).heap.size (W.alloc (.cells #[.int .i64 kd, .slice ar nr cr, .slice none 0 0, .int .i64 0, .int .i64 cn, .int .i64 cd] 30)) w' → Calls Try.prog 28 #[DV kd (.slice ar nr cr) cn cd] w' fun e w2 => e = .returned (.bool (prB r)) ∧ Below w'.heap.size w' w2) := Lib.hid (fun w' hb => rProper_any (hr.below (HBB.out _ hb)) kd cn cd)
  have HFI : Hid (∀ w', Below (W.alloc (.cells #[.int .i64 kd, .slice ar nr cr, .slice none 0 0, .int .i64 0, .int .i64 cn, .int .i64 cd] 30)).heap.size (W.alloc (.cells #[.int .i64 kd, .slice ar nr cr, .slice none 0 0, .int .i64 0, .int .i64 cn, .int .i64 cd] 30)) w' → Calls Try.prog 29 #[DV kd (.slice ar nr cr) cn cd, .slice aw nw cw] w' fun e w2 => e = .returned (.bool (fiB r row)) ∧ Below w'.heap.size w' w2) := Lib.hid (fun w' hb => rFine_any hr.size (hw.below (HBB.out _ hb)) kd cn cd)
  obtain ⟨c0, c1, c2, c3, c4, c5⟩ := (dbox_is W kd (.slice ar nr cr) cn cd).cells
  have hl0 : W.heap.size < (W.alloc (.cells #[.int .i64 kd, .slice ar nr cr, .slice none 0 0, .int .i64 0, .int .i64 cn, .int .i64 cd] 30)).heap.size := by simp
  cases hp : prB r with
  | false =>
    have hU : uneV r row = 0 := by unfold uneV; rw [hp]; rfl
    rw [hU]
    rw [hp] at HPR
    clear hr hw lr hB0 hp hU
    go_enter Try.func13, Try.ntmps13
    go_wp2_with (go_at_call 28; (with_reducible refine (HPR.out _ (Below.refl _ _)).mono ?_); rintro e w1 ⟨rfl, hb1⟩; have HB := Lib.hid hb1; clear hb1)
    go_ret
    exact ⟨rfl, HBB.out _ HB.out⟩
  | true =>
    rw [hp] at HPR
    cases hf : fiB r row with
    | false =>
      have hU : uneV r row = 0 := by unfold uneV; rw [hp, hf]; rfl
      rw [hU]
      rw [hf] at HFI
      clear hr hw lr hB0 hp hU hf
      go_enter Try.func13, Try.ntmps13
      go_wp2_with (first
        | (go_at_call 28; (with_reducible refine (HPR.out _ (Below.refl _ _)).mono ?_); rintro e w1 ⟨rfl, hb1⟩; have HB := Lib.hid hb1; clear c0 c1 c2 c3 c4 c5; obtain ⟨c0, c1, c2, c3, c4, c5⟩ := HS.out _ hb1; clear hb1)
        | (go_at_call 29; (with_reducible refine (HFI.out _ HB.out).mono ?_); rintro e w2 ⟨rfl, hb1⟩; have HB := Lib.hid (HB.out.trans (hb1.mono HB.out.size)); clear hb1))
      go_ret
      exact ⟨rfl, HBB.out _ HB.out⟩
    | true =>
      have hU : uneV r row = unev r (unV r row) := by unfold uneV; rw [hp, hf]; rfl
      rw [hf] at HFI
      have h6 := (prB_iff.1 hp).1
      have hnw := hw.size
      have lw : nw ≤ 8 := by
        have h := unV_len hf
        unfold unV at h
        split at h
        · omega
        · omega
      have hun : Hid (∀ w', Below (W.alloc (.cells #[.int .i64 kd, .slice ar nr cr, .slice none 0 0, .int .i64 0, .int .i64 cn, .int .i64 cd] 30)).heap.size (W.alloc (.cells #[.int .i64 kd, .slice ar nr cr, .slice none 0 0, .int .i64 0, .int .i64 cn, .int .i64 cd] 30)) w' → Calls Try.prog 31 #[DV kd (.slice ar nr cr) cn cd, .slice aw nw cw] w' fun e w2 => ∃ ao n cap, e = .returned (.slice ao n cap) ∧ Ix w2 (.slice ao n cap) (unV r row) ∧ Below w'.heap.size w' w2) := Lib.hid (fun w' hb => by
        refine (rFull_any hr.size (hw.below (HBB.out _ hb)) lr lw kd cn cd).mono fun e w2 h => ?_
        obtain ⟨ao, n, cap, h1, h2, h3⟩ := h
        exact ⟨ao, n, cap, h1, h2.ix (by have := owI_len h2; rw [unV_len hf] at this; omega) (fun k => by have := unV_in hf k; exact ⟨by omega, by omega⟩), h3⟩)
      have HV : Hid (∀ w' ao n cap, Below (W.alloc (.cells #[.int .i64 kd, .slice ar nr cr, .slice none 0 0, .int .i64 0, .int .i64 cn, .int .i64 cd] 30)).heap.size (W.alloc (.cells #[.int .i64 kd, .slice ar nr cr, .slice none 0 0, .int .i64 0, .int .i64 cn, .int .i64 cd] 30)) w' → Ix w' (.slice ao n cap) (unV r row) → Calls Try.prog 30 #[DV kd (.slice ar nr cr) cn cd, .slice ao n cap] w' fun e w2 => e = .returned (.int .i64 (uneV r row)) ∧ Below w'.heap.size w' w2) := Lib.hid (fun w' ao n cap hb hx => by
        rw [hU]
        exact rUnevenness_any (hr.below (HBB.out _ hb)) hx hp (unV_len hf) (fun k => by have := unV_in hf k; omega) kd cn cd)
      obtain ⟨Z, hZ⟩ : ∃ Z, Z = uneV r row := ⟨_, rfl⟩
      rw [← hZ] at HV ⊢
      obtain ⟨L, hL⟩ : ∃ L, L = unV r row := ⟨_, rfl⟩
      rw [← hL] at HV hun
      clear hr hw lr hB0 hp hU hf h6 lw hZ hL hnw
      go_enter Try.func13, Try.ntmps13
      go_wp2_with (first
        | (go_at_call 28; (with_reducible refine (HPR.out _ (Below.refl _ _)).mono ?_); rintro e w1 ⟨rfl, hb1⟩; have HB := Lib.hid hb1; clear c0 c1 c2 c3 c4 c5; obtain ⟨c0, c1, c2, c3, c4, c5⟩ := HS.out _ hb1; clear hb1)
        | (go_at_call 29; (with_reducible refine (HFI.out _ HB.out).mono ?_); rintro e w2 ⟨rfl, hb1⟩; have HX := Lib.hid (HB.out.trans (hb1.mono HB.out.size)); clear hb1))
      clear c0 c1 c2 c3 c4 c5 hl0
      obtain ⟨k0, k1, k2, k3, k4, k5⟩ := HS.out _ HX.out
      have HBX := Lib.hid HX.out.drew
      go_region_held3 (fun w' => w'.cell? ⟨W.heap.size, 0, none⟩ = some (.int .i64 kd) ∧ w'.cell? ⟨W.heap.size, 1, none⟩ = some (.slice ar nr cr) ∧ w'.cell? ⟨W.heap.size, 2, none⟩ = some (.slice none 0 0) ∧ w'.cell? ⟨W.heap.size, 3, none⟩ = some (.int .i64 0) ∧ w'.cell? ⟨W.heap.size, 4, none⟩ = some (.int .i64 cn) ∧ w'.cell? ⟨W.heap.size, 5, none⟩ = some (.int .i64 cd))
        (first | (with_reducible exact HS.out _ HBX.out) | (with_reducible exact HS.out _ HX.out.drew) | (with_reducible exact HS.out _ HX.out))
        ((first
        | (go_at_call 31; (with_reducible refine (hun.out _ HBX.out).mono ?_); rintro e w2 ⟨ao, n, cap, rfl, hi, hb⟩; have HIX := Lib.hid hi; have HBX := Lib.hid (HBX.out.trans (hb.mono HBX.out.size)); clear hb hi)
        | (go_at_call 30; (with_reducible refine (HV.out _ _ _ _ HBX.out HIX.out).mono ?_); rintro e w3 ⟨rfl, hb⟩; have HBX := Lib.hid (HBX.out.trans (hb.mono HBX.out.size)); clear hb)))
      go_wp2
      go_ret
      exact ⟨rfl, HBB.out _ HBX.out⟩

end Go.Proofs.Ytcpgoaombabfjaa
