/- Contracts of num's texts: decimal. No condition. -/
import Derived.Lib.ConvBytes
import Derived.Lib.SmallJoins
import Derived.Test.YtdgmjmckeeeljaaGreatDoorDD
namespace Go.Proofs.YtdgmjmckeeeljaaGreatDoor
open Go.RowKit

def digB (b : UInt8) : Bool := decide (48 ≤ b.toNat) && decide (b.toNat ≤ 57)

/-- Whether a string is the text of a number that is not negative, of at most 2467 digits. -/
def decB (s : ByteArray) : Bool := decide (s.size ≠ 0) && decide (s.size ≤ 2467) && (decide ((s.data.toList.getD 0 0).toNat ≠ 48) || decide (s.size = 1)) && s.data.toList.all digB

theorem eql_empty (s : ByteArray) (h : s.size ≠ 0) : binOp BinOp.eql 9 (.string s) (.string ⟨#[]⟩) = (pure (.bool false) : Sem Value) := by
  rw [binOp_string_eql]
  have : (s.toList == (ByteArray.mk #[]).toList) = false := by
    rw [beq_eq_false_iff_ne, ByteArray.toList_eq, ByteArray.toList_eq]
    intro hs
    apply h
    have : s.data.toList.length = 0 := by rw [hs]; rfl
    rw [Array.length_toList] at this
    exact this
  rw [this]

theorem neq_zero (s : ByteArray) (h0 : (s.data.toList.getD 0 0).toNat = 48) (h : s.size ≠ 0) : binOp BinOp.neq 9 (.string s) (.string ⟨#[48]⟩) = (pure (.bool (!decide (s.size = 1))) : Sem Value) := by
  rw [binOp_string_neq]
  have : (s.toList == (ByteArray.mk #[48]).toList) = decide (s.size = 1) := by
    rw [ByteArray.toList_eq, ByteArray.toList_eq]
    rw [Bool.eq_iff_iff, beq_iff_eq, decide_eq_true_iff]
    have hsz : s.size = s.data.toList.length := by rw [Array.length_toList]; rfl
    rw [hsz]
    constructor
    · intro e; rw [e]; rfl
    · intro e
      match hm : s.data.toList, e with
      | [b], _ =>
        rw [hm] at h0
        have hb : b = 48 := UInt8.toNat_inj.1 (by simpa using h0)
        rw [hb]
  rw [this]

theorem index_first (s : ByteArray) (h : s.size ≠ 0) (w : World) : (Instr.index 9 (.string s) (.int .i64 0)).run Tryz.prog w = .ok (.int .u8 (s.data.toList.getD 0 0).toNat) w := by
  rw [run_index_string _ _ _ _ _ (by first | exact Tryz.underlying9 | kernel_rfl)]
  have h1 : 0 < s.size := by omega
  have h2 : 0 < s.data.size := h1
  have e : s.data.toList.getD 0 0 = s[0] := by
    simp only [List.getD, Array.getElem?_toList]
    rw [Array.getElem?_eq_getElem h2]
    rfl
  rw [dif_pos ⟨by omega, by omega⟩, e]
  rfl

set_option maxRecDepth 10000 in
set_option maxHeartbeats 1000000 in
theorem decimal_empty (w : World) : Calls Tryz.prog 64 #[.string ⟨#[]⟩] w (SameRes w false) := by
  go_enter Tryz.func64, Tryz.ntmps64
  go_wp2
  go_returns
  exact ⟨rfl, by go_grown⟩

set_option maxRecDepth 10000 in
set_option maxHeartbeats 1000000 in
theorem decimal_long (s : ByteArray) (w : World) (h : 2467 < s.size) : Calls Tryz.prog 64 #[.string s] w (SameRes w false) := by
  have e1 := eql_empty s (by omega)
  go_enter Tryz.func64, Tryz.ntmps64
  go_wp2
  go_returns
  exact ⟨rfl, by go_grown⟩

set_option maxRecDepth 10000 in
set_option maxHeartbeats 1000000 in
theorem decimal_zeros (s : ByteArray) (w : World) (h1 : 1 < s.size) (h2 : s.size ≤ 2467) (h0 : (s.data.toList.getD 0 0).toNat = 48) : Calls Tryz.prog 64 #[.string s] w (SameRes w false) := by
  have e1 := eql_empty s (by omega)
  have e2 := neq_zero s h0 (by omega)
  have e3 := index_first s (by omega)
  rw [h0] at e3
  have e4 : (!decide (s.size = 1)) = true := by simp; omega
  rw [e4] at e2
  clear e4 h0
  go_enter Tryz.func64, Tryz.ntmps64
  go_wp2
  go_returns
  exact ⟨rfl, by go_grown⟩

set_option maxRecDepth 10000 in
set_option maxHeartbeats 1000000 in
theorem decimal_loop (s : ByteArray) (w : World) (c : Bool) (h1 : s.size ≠ 0) (h2 : s.size ≤ 2467) (h0 : (s.data.toList.getD 0 0).toNat ≠ 48 ∨ s.size = 1) (hc : c = s.data.toList.all digB) : Calls Tryz.prog 64 #[.string s] w (SameRes w c) := by
  have e1 := eql_empty s h1
  have e3 := index_first s h1
  have hlen : s.data.toList.length = s.size := by rw [Array.length_toList]; rfl
  have hall : (∀ j, j < s.size → digB (s.data.toList.getD j 0) = true) → c = true := fun h => by
    rw [hc, List.all_eq_true]
    intro x hx
    obtain ⟨j, hj, rfl⟩ := List.getElem_of_mem hx
    have := h j (by omega)
    simpa [List.getD, List.getElem?_eq_getElem hj] using this
  have hno : ∀ j, j < s.size → digB (s.data.toList.getD j 0) = false → c = false := fun j hj h => by
    rw [hc]
    rw [Bool.eq_false_iff]
    intro ha
    rw [List.all_eq_true] at ha
    have hj' : j < s.data.toList.length := by omega
    have := ha _ (List.getElem_mem hj')
    simp only [List.getD, List.getElem?_eq_getElem hj', Option.getD_some] at h
    rw [this] at h
    cases h
  have HALL := Lib.hid hall
  have HNO := Lib.hid hno
  have HC : Hid (∀ j, j < s.size → (Lib.bytesWorld w 5 s).cell? ⟨w.heap.size, j, none⟩ = some (.int .u8 (s.data.toList.getD j 0).toNat)) := fun j hj => Lib.bytesWorld_cell w 5 s j hj
  have HBW : Hid (Below w.heap.size w (Lib.bytesWorld w 5 s)) := Lib.bytesWorld_below _ _ _
  have hconv := Lib.run_convert_string_bytes (P := Tryz.prog) w 9 56 5 s (by first | exact Tryz.underlying9 | kernel_rfl) (by first | exact Tryz.underlying56 | kernel_rfl) (by first | exact Tryz.underlying5 | kernel_rfl)
  obtain ⟨W, hW⟩ : ∃ W, W = Lib.bytesWorld w 5 s := ⟨_, rfl⟩
  rw [← hW] at HC HBW hconv
  obtain ⟨d, hd⟩ : ∃ d, d = (s.data.toList.getD 0 0).toNat := ⟨_, rfl⟩
  obtain ⟨n, hn⟩ : ∃ n, n = s.size := ⟨_, rfl⟩
  have hcap : n ≤ grownCap w n 0 5 := grownCap_ge _ _ _ _
  rw [← hd] at e3 h0
  clear hall hno hlen hc hW
  have HN := Lib.hid hn
  rw [← hn] at hconv
  by_cases h48 : d = 48
  · have e2 := neq_zero s (by rw [← hd, h48]) h1
    have hs1 : s.size = 1 := by omega
    rw [hs1] at e2
    subst h48
    have en : n = 1 := by rw [hn, hs1]
    clear hn hd hs1
    have e4 : (!decide ((1 : Nat) = 1)) = false := rfl
    rw [e4] at e2
    clear e4
    go_enter Tryz.func64, Tryz.ntmps64
    go_wp2
    go_loop [24] (fun i => ∃ k : Nat, k ≤ n ∧ i = .int .i64 (k : Nat) ∧ Hid (∀ j, j < k → digB (s.data.toList.getD j 0) = true)) (fun i => n - (intOf i).toNat)
    case atStart => exact ⟨0, by omega, rfl, Lib.hid (fun j hj => by omega)⟩
    case round =>
      obtain ⟨k, hk, rfl, hj⟩ := hrel
      by_cases hkn : k = n
      · have he := HALL.out (fun j hj' => hj.out j (by rw [hkn, HN.out]; exact hj'))
        subst he
        subst hkn
        go_wp2
        go_ret
        exact ⟨rfl, HBW.out⟩
      · have hx := HC.out k (by rw [← HN.out]; omega)
        have hkl : k < s.size := by rw [← HN.out]; omega
        by_cases hg : digB (s.data.toList.getD k 0) = true
        · have hJ : ∀ j, j < k + 1 → digB (s.data.toList.getD j 0) = true := fun j hj' => by
            by_cases hjk : j = k
            · rw [hjk]; exact hg
            · exact hj.out j (by omega)
          have HJ := Lib.hid hJ
          clear hJ
          obtain ⟨x, hxx⟩ : ∃ x, x = (s.data.toList.getD k 0).toNat := ⟨_, rfl⟩
          unfold digB at hg
          rw [← hxx] at hx hg
          simp only [Bool.and_eq_true, decide_eq_true_eq] at hg
          obtain ⟨g1, g2⟩ := hg
          clear hxx
          go_wp2
          go_round
          case rel => exact ⟨k + 1, by omega, by go_num, HJ⟩
          case measure => simp only [intOf]; omega
        · have he := HNO.out k hkl (by simpa using hg)
          subst he
          obtain ⟨x, hxx⟩ : ∃ x, x = (s.data.toList.getD k 0).toNat := ⟨_, rfl⟩
          unfold digB at hg
          rw [← hxx] at hx hg
          simp only [Bool.and_eq_true, decide_eq_true_eq] at hg
          clear hxx
          by_cases g1 : x < 48
          · go_wp2
            go_ret
            exact ⟨rfl, HBW.out⟩
          · have g2 : 57 < x := by omega
            go_wp2
            go_ret
            exact ⟨rfl, HBW.out⟩
  · have h49 : ((d : Int) == 48) = false := by simp; omega
    clear hn hd
    go_enter Tryz.func64, Tryz.ntmps64
    go_wp2
    go_loop [24] (fun i => ∃ k : Nat, k ≤ n ∧ i = .int .i64 (k : Nat) ∧ Hid (∀ j, j < k → digB (s.data.toList.getD j 0) = true)) (fun i => n - (intOf i).toNat)
    case atStart => exact ⟨0, by omega, rfl, Lib.hid (fun j hj => by omega)⟩
    case round =>
      obtain ⟨k, hk, rfl, hj⟩ := hrel
      by_cases hkn : k = n
      · have he := HALL.out (fun j hj' => hj.out j (by rw [hkn, HN.out]; exact hj'))
        subst he
        subst hkn
        go_wp2
        go_ret
        exact ⟨rfl, HBW.out⟩
      · have hx := HC.out k (by rw [← HN.out]; omega)
        have hkl : k < s.size := by rw [← HN.out]; omega
        by_cases hg : digB (s.data.toList.getD k 0) = true
        · have hJ : ∀ j, j < k + 1 → digB (s.data.toList.getD j 0) = true := fun j hj' => by
            by_cases hjk : j = k
            · rw [hjk]; exact hg
            · exact hj.out j (by omega)
          have HJ := Lib.hid hJ
          clear hJ
          obtain ⟨x, hxx⟩ : ∃ x, x = (s.data.toList.getD k 0).toNat := ⟨_, rfl⟩
          unfold digB at hg
          rw [← hxx] at hx hg
          simp only [Bool.and_eq_true, decide_eq_true_eq] at hg
          obtain ⟨g1, g2⟩ := hg
          clear hxx
          go_wp2
          go_round
          case rel => exact ⟨k + 1, by omega, by go_num, HJ⟩
          case measure => simp only [intOf]; omega
        · have he := HNO.out k hkl (by simpa using hg)
          subst he
          obtain ⟨x, hxx⟩ : ∃ x, x = (s.data.toList.getD k 0).toNat := ⟨_, rfl⟩
          unfold digB at hg
          rw [← hxx] at hx hg
          simp only [Bool.and_eq_true, decide_eq_true_eq] at hg
          clear hxx
          by_cases g1 : x < 48
          · go_wp2
            go_ret
            exact ⟨rfl, HBW.out⟩
          · have g2 : 57 < x := by omega
            go_wp2
            go_ret
            exact ⟨rfl, HBW.out⟩

/-- num.decimal. -/
theorem decimal_any (s : ByteArray) (w : World) : Calls Tryz.prog 64 #[.string s] w (SameRes w (decB s)) := by
  by_cases h1 : s.size = 0
  · have e : s = ⟨#[]⟩ := by
      apply ByteArray.ext
      exact Array.eq_empty_of_size_eq_zero h1
    have e2 : decB s = false := by unfold decB; rw [h1]; rfl
    rw [e2, e]
    exact decimal_empty w
  · by_cases h2 : 2467 < s.size
    · have e2 : decB s = false := by
        unfold decB
        have : decide (s.size ≤ 2467) = false := decide_eq_false (by omega)
        rw [this, Bool.and_false]; rfl
      rw [e2]
      exact decimal_long s w h2
    · by_cases h0 : (s.data.toList.getD 0 0).toNat = 48 ∧ s.size ≠ 1
      · have e2 : decB s = false := by
          unfold decB
          have : (decide ((s.data.toList.getD 0 0).toNat ≠ 48) || decide (s.size = 1)) = false := by rw [decide_eq_false (by intro h; exact h h0.1), decide_eq_false h0.2]; rfl
          rw [this, Bool.and_false]; rfl
        rw [e2]
        exact decimal_zeros s w (by omega) (by omega) h0.1
      · refine decimal_loop s w (decB s) h1 (by omega) (by omega) ?_
        unfold decB
        have a1 : decide (s.size ≠ 0) = true := decide_eq_true h1
        have a2 : decide (s.size ≤ 2467) = true := decide_eq_true (by omega)
        have a3 : (decide ((s.data.toList.getD 0 0).toNat ≠ 48) || decide (s.size = 1)) = true := by
          rw [Bool.or_eq_true, decide_eq_true_iff, decide_eq_true_iff]; omega
        rw [a1, a2, a3]; rfl

end Go.Proofs.YtdgmjmckeeeljaaGreatDoor
