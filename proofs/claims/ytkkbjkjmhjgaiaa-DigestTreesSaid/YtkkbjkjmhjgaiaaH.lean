/- Contracts: read, is, Check of digest. Condition: the strings are shorter than 2^32. -/
import Derived.Test.YtkkbjkjmhjgaiaaF
namespace Go.Proofs.Ytkkbjkjmhjgaiaa
open Go.RowKit

def zero8 : List UInt8 := [0, 0, 0, 0, 0, 0, 0, 0]

theorem results_cell2 {fn : Func} {t u ty g : Nat} {tmps : Array Value} {w : World} {cs : Array Value} (h : fn.results = #[.cell t 52, .tmp u]) (hp : tmps.getD t undef = .pointer (some ⟨g, 0, none⟩)) (hg : w.heap[g]? = some (.cells cs ty (0, 0))) (hs : cs.size = 8 := by rfl) :
    (results fn tmps).run Try.prog w = .ok (.tuple #[.agg cs, tmps.getD u undef]) w := by
  have h1 := run_loadVar_row (P := Try.prog) w g ty 52 cs (0, 0) _ hg Try.underlying52 rfl (by rw [hs]; kernel_rfl)
  have hp' : tmps[t]?.getD undef = .pointer (some ⟨g, 0, none⟩) := by simpa [Array.getD_eq_getD_getElem?] using hp
  simp [results, h, hp', h1, asAddr, Result.andThen]

set_option maxRecDepth 10000 in
set_option maxHeartbeats 1000000 in
theorem read_no (s : ByteArray) (h : s.size ≠ 8) (_ : s.size ≤ 140737488355328) (w : World) : Calls Try.prog 42 #[.string s] w fun e w' => e = .returned (.tuple #[dval zero8, .bool false]) ∧ Below w.heap.size w w' := by
  have e0 : dval zero8 = .agg #[.int .u8 0, .int .u8 0, .int .u8 0, .int .u8 0, .int .u8 0, .int .u8 0, .int .u8 0, .int .u8 0] := rfl
  have h8 : ((s.size : Int) != 8) = true := by simp; omega
  rw [e0]
  clear e0 h
  go_enter Try.func42, Try.ntmps42
  go_wp2
  go_returns
  exact ⟨rfl, by go_grown⟩

set_option maxRecDepth 10000 in
set_option maxHeartbeats 1000000 in
theorem read_yes (s : ByteArray) (h : s.size = 8) (w : World) : Calls Try.prog 42 #[.string s] w fun e w' => e = .returned (.tuple #[dval (by' s), .bool true]) ∧ Below w.heap.size w w' := by
  obtain ⟨W0, hW0⟩ : ∃ W0, W0 = w.alloc (.cells #[.int .u8 0, .int .u8 0, .int .u8 0, .int .u8 0, .int .u8 0, .int .u8 0, .int .u8 0, .int .u8 0] 52) := ⟨_, rfl⟩
  have hconv := Lib.run_convert_string_bytes (P := Try.prog) W0 9 49 5 s Try.underlying9 Try.underlying49 Try.underlying5
  have hs0 : W0.heap.size = w.heap.size + 1 := by rw [hW0]; simp
  have r0 : row8 W0 w.heap.size 0 0 0 0 0 0 0 0 := by rw [hW0]; exact heap_alloc_new _ _
  have hB0 : Below w.heap.size w W0 := by rw [hW0]; exact Below.alloc (Below.refl _ _) (Nat.le_refl _) _
  have hbw := bytes_below W0 5 s
  have hcl := fun j hj => Lib.bytesWorld_cell W0 5 s j hj
  have hcap2 : s.size ≤ grownCap W0 s.size 0 5 := grownCap_ge _ _ _ _
  obtain ⟨cap2, hcp⟩ : ∃ c, c = grownCap W0 s.size 0 5 := ⟨_, rfl⟩
  obtain ⟨W2, hW2⟩ : ∃ W2, W2 = Lib.bytesWorld W0 5 s := ⟨_, rfl⟩
  have r2 := row8_below r0 hbw (by omega)
  rw [← hcp] at hconv hcap2
  rw [← hW2] at hconv hbw hcl r2
  rw [hs0] at hconv hcl
  rw [h] at hconv hcl hcap2
  obtain ⟨l, hl⟩ : ∃ l, l = by' s := ⟨_, rfl⟩
  have hl8 : l.length = 8 := by rw [hl, ← h]; exact Array.length_toList
  have hcl' : ∀ j, j < 8 → W2.cell? ⟨w.heap.size + 1, j, none⟩ = some (.int .u8 (l.getD j 0).toNat) := by rw [hl]; exact hcl
  rw [← hl]
  obtain ⟨b0, b1, b2, b3, b4, b5, b6, b7, rfl⟩ : ∃ b0 b1 b2 b3 b4 b5 b6 b7, l = [b0, b1, b2, b3, b4, b5, b6, b7] := by
    match l, hl8 with
    | [b0, b1, b2, b3, b4, b5, b6, b7], _ => exact ⟨_, _, _, _, _, _, _, _, rfl⟩
  obtain ⟨a0, ha0⟩ : ∃ a : Int, a = b0.toNat := ⟨_, rfl⟩
  obtain ⟨a1, ha1⟩ : ∃ a : Int, a = b1.toNat := ⟨_, rfl⟩
  obtain ⟨a2, ha2⟩ : ∃ a : Int, a = b2.toNat := ⟨_, rfl⟩
  obtain ⟨a3, ha3⟩ : ∃ a : Int, a = b3.toNat := ⟨_, rfl⟩
  obtain ⟨a4, ha4⟩ : ∃ a : Int, a = b4.toNat := ⟨_, rfl⟩
  obtain ⟨a5, ha5⟩ : ∃ a : Int, a = b5.toNat := ⟨_, rfl⟩
  obtain ⟨a6, ha6⟩ : ∃ a : Int, a = b6.toNat := ⟨_, rfl⟩
  obtain ⟨a7, ha7⟩ : ∃ a : Int, a = b7.toNat := ⟨_, rfl⟩
  have e0 : dval [b0, b1, b2, b3, b4, b5, b6, b7] = .agg #[.int .u8 a0, .int .u8 a1, .int .u8 a2, .int .u8 a3, .int .u8 a4, .int .u8 a5, .int .u8 a6, .int .u8 a7] := by rw [ha0, ha1, ha2, ha3, ha4, ha5, ha6, ha7]; rfl
  rw [e0]
  have d0 : W2.cell? ⟨w.heap.size + 1, 0, none⟩ = some (.int .u8 a0) := by rw [ha0]; exact hcl' 0 (by omega)
  have d1 : W2.cell? ⟨w.heap.size + 1, 1, none⟩ = some (.int .u8 a1) := by rw [ha1]; exact hcl' 1 (by omega)
  have d2 : W2.cell? ⟨w.heap.size + 1, 2, none⟩ = some (.int .u8 a2) := by rw [ha2]; exact hcl' 2 (by omega)
  have d3 : W2.cell? ⟨w.heap.size + 1, 3, none⟩ = some (.int .u8 a3) := by rw [ha3]; exact hcl' 3 (by omega)
  have d4 : W2.cell? ⟨w.heap.size + 1, 4, none⟩ = some (.int .u8 a4) := by rw [ha4]; exact hcl' 4 (by omega)
  have d5 : W2.cell? ⟨w.heap.size + 1, 5, none⟩ = some (.int .u8 a5) := by rw [ha5]; exact hcl' 5 (by omega)
  have d6 : W2.cell? ⟨w.heap.size + 1, 6, none⟩ = some (.int .u8 a6) := by rw [ha6]; exact hcl' 6 (by omega)
  have d7 : W2.cell? ⟨w.heap.size + 1, 7, none⟩ = some (.int .u8 a7) := by rw [ha7]; exact hcl' 7 (by omega)
  obtain ⟨c0, c1, c2, c3, c4, c5, c6, c7⟩ := row8_cells r2
  obtain ⟨f0, f1, f2, f3, f4, f5, f6, f7⟩ := row8_free r2
  have R2 := Lib.hid r2
  have HBW := Lib.hid hbw
  have HB0 := Lib.hid hB0
  have HS0 := Lib.hid hs0
  have HCV := Lib.hid hconv
  have HW0 := Lib.hid hW0
  clear ha0 ha1 ha2 ha3 ha4 ha5 ha6 ha7 hcl hcl' e0 r2 hbw hB0 hs0 hconv hW0 hcp hW2 hl hl8 r0
  have hat : ∀ W, (Instr.arrayAt 52 (.slice (some ⟨w.heap.size + 1, 0, none⟩) 8 cap2)).run Try.prog W = .ok (.pointer (some ⟨w.heap.size + 1, 0, none⟩)) W := fun W => by simp [Instr.arrayAt, run_underlying Try.underlying52]
  go_enter Try.func42, Try.ntmps42
  go_wp2
  rw [← HW0.out, HCV.out]
  simp only [Result.andThen]
  rw [Oper.upon_value]
  go_wp2
  refine bodyPost_ret (results_cell2 (t := 2) (u := 3) rfl rfl (put8_row R2.out)) rfl ⟨rfl, ?_⟩
  exact put8_below (HB0.out.trans (HBW.out.mono (by rw [HS0.out]; omega))) (Nat.le_refl _)

end Go.Proofs.Ytkkbjkjmhjgaiaa
