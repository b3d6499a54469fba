/- Contracts: the search for the first choice above a number. Condition: the weights are permitted, and together more than it. -/
import Derived.Test.YtafdjohgoopcmaaXE
namespace Go.Proofs.Ytafdjohgoopcmaa
open Go.RowKit

/-- The first choice up to which the weights are together more than n. -/
def above (n : Nat) : Nat → List Ch → Nat
  | _, [] => 0
  | S, c :: l => if n < S + c.1.toNat then 0 else above n (S + c.1.toNat) l + 1

/-- What the search keeps in memory. -/
structure FS (W : World) (B P5 P2 S n : Nat) : Prop where
  ne : B ≠ P2
  b : Box1 W B S
  p2 : Box1 W P2 n
  p5 : W.heap[P5]? = some (.cells #[.func (.func 47) #[] #[.pointer (some ⟨B, 0, none⟩)]] 57 (0, 0))

theorem FS.below {W W' : World} {B P5 P2 S n : Nat} (h : FS W B P5 P2 S n) (hb : Below W.heap.size W W') : FS W' B P5 P2 S n :=
  ⟨h.ne, h.b.below hb, h.p2.below hb, (hb.block P5 (Array.getElem?_eq_some_iff.1 h.p5).1).trans h.p5⟩

theorem FS.ne5 {W : World} {B P5 P2 S n : Nat} (h : FS W B P5 P2 S n) : P5 ≠ B := fun e => by
  have h1 := h.p5
  rw [e] at h1
  have := h1.symm.trans h.b
  simp at this

theorem FS.set {W : World} {B P5 P2 S n : Nat} (h : FS W B P5 P2 S n) (S2 : Nat) : FS (W.setCell ⟨B, 0, none⟩ (.int .i64 (S2 : Nat))) B P5 P2 S2 n :=
  ⟨h.ne, heap_setCell_same _ B 0 _ 3 _ h.b, (Below.heap_setCell W ⟨B, 0, none⟩ _ P2 (fun e => h.ne e.symm)).trans h.p2, (Below.heap_setCell W ⟨B, 0, none⟩ _ P5 h.ne5).trans h.p5⟩

set_option maxRecDepth 10000 in
set_option maxHeartbeats 2000000 in
theorem is_above {W : World} {B P5 P2 S n : Nat} (h : FS W B P5 P2 S n) (hS : S ≤ 1073741824) {x y z : Int} (hx : addW S x) :
    Calls Try.prog 38 #[.agg #[.int .i64 x, .int .i64 y, .int .i64 z], .pointer (some ⟨P5, 0, none⟩), .pointer (some ⟨P2, 0, none⟩)] W fun e w' => e = .returned (.bool (decide (n < S + x.toNat))) ∧ FS w' B P5 P2 (S + x.toNat) n ∧ ∀ base w, Below base w W → base ≤ W.heap.size → base ≤ B → Below base w w' := by
  have h0 := h.below (Below.alloc (Below.refl _ W) (Nat.le_refl _) (.cells #[.int .i64 x, .int .i64 y, .int .i64 z] 32))
  have HY := Lib.hid (add_yes h0.b hS hx)
  have h2 := h0.set (S + x.toNat)
  have c5 : (W.alloc (.cells #[.int .i64 x, .int .i64 y, .int .i64 z] 32)).cell? ⟨P5, 0, none⟩ = some (.func (.func 47) #[] #[.pointer (some ⟨B, 0, none⟩)]) := cell_of_one h0.p5
  have c2 := cell_of_one h2.p2
  have H2 := Lib.hid h2
  have hW : Hid (∀ base w, Below base w W → base ≤ W.heap.size → base ≤ B → Below base w ((W.alloc (.cells #[.int .i64 x, .int .i64 y, .int .i64 z] 32)).setCell ⟨B, 0, none⟩ (.int .i64 ((S + x.toNat : Nat) : Int)))) := Lib.hid fun base w hb h1 h3 => (hb.alloc h1 _).setCell (p := ⟨B, 0, none⟩) h3 _
  obtain ⟨S2, hS2⟩ : ∃ S2, S2 = S + x.toNat := ⟨_, rfl⟩
  rw [← hS2] at HY c2 H2 hW ⊢
  obtain ⟨W2, hW2⟩ : ∃ W2, W2 = (W.alloc (.cells #[.int .i64 x, .int .i64 y, .int .i64 z] 32)).setCell ⟨B, 0, none⟩ (.int .i64 (S2 : Int)) := ⟨_, rfl⟩
  rw [← hW2] at HY c2 H2 hW
  have hd : decide ((n : Int) < (S2 : Int)) = decide (n < S2) := by rw [decide_eq_decide]; omega
  have HW2 := Lib.hid hW2
  clear hS2 hW2 h0 h2 hx h
  go_enter Try.func38, Try.ntmps38
  go_wp2_with (go_at_call 47; refine HY.out.mono ?_; rintro e w2 ⟨rfl, -, -, -, rfl⟩)
  go_ret
  exact ⟨by first | rfl | (rw [← hd]; rfl) | (simp; done), H2.out, hW.out⟩

theorem above_step {l : List Ch} {k S n : Nat} (h : k < l.length) : above n S (l.drop k) = if n < S + (l.getD k (0, 0, 0)).1.toNat then 0 else above n (S + (l.getD k (0, 0, 0)).1.toNat) (l.drop (k + 1)) + 1 := by
  rw [drop_step h, above]

theorem sumV_ge : ∀ (l : List Ch) (S T : Nat), sumV S l = some T → S ≤ T
  | [], S, T, h => by simp [sumV] at h; omega
  | c :: l, S, T, h => by
    unfold sumV at h
    split at h
    · have := sumV_ge l _ _ h; omega
    · cases h

theorem sumV_le : ∀ (l : List Ch) (S T : Nat), S ≤ 1073741824 → sumV S l = some T → T ≤ 1073741824
  | [], S, T, h0, h => by simp [sumV] at h; omega
  | c :: l, S, T, h0, h => by
    unfold sumV at h
    split at h
    · rename_i ha
      exact sumV_le l _ _ (by unfold addW at ha; omega) h
    · cases h

set_option maxRecDepth 10000 in
set_option maxHeartbeats 2000000 in
theorem index_any {w W : World} {v : Value} {l : List Ch} (h : Cx w v l) {B P5 P2 n T : Nat} (hF : FS W B P5 P2 0 n) (hb : Below w.heap.size w W) (hB : w.heap.size ≤ B) (hT : sumV 0 l = some T) (hn : n < T) :
    Calls Try.prog 37 #[v, .func (.func 38) #[] #[.pointer (some ⟨P5, 0, none⟩), .pointer (some ⟨P2, 0, none⟩)]] W fun e w' => e = .returned (.int .i64 (above n 0 l : Nat)) ∧ Below w.heap.size w w' := by
  obtain ⟨ao, cap, rfl⟩ := h.mk'
  have hlen := h.len
  unfold maxLen at hlen
  obtain ⟨m, hm⟩ : ∃ m, m = l.length := ⟨_, rfl⟩
  have HN := Lib.hid hm
  have HX := Lib.hid h
  rw [← hm] at hlen HX ⊢
  obtain ⟨R, hR⟩ : ∃ R, R = above n 0 l := ⟨_, rfl⟩
  have HR := Lib.hid hR
  rw [← hR]
  have HT := Lib.hid hT
  have HF := Lib.hid hF
  have HB := Lib.hid hb
  clear h hm hR hT hF hb
  go_enter Try.func37, Try.ntmps37
  go_wp2
  go_loopw [8] (fun kv wr => ∃ k S : Nat, k ≤ m ∧ S ≤ 1073741824 ∧ kv = .int .i64 (k : Nat) ∧ Hid (above n S (l.drop k) + k = R) ∧ Hid (sumV S (l.drop k) = some T ∧ S ≤ n) ∧ Hid (FS wr B P5 P2 S n) ∧ Hid (Below w.heap.size w wr)) (fun kv _ => m - (intOf kv).toNat)
  case atStart => exact ⟨0, 0, by omega, by omega, rfl, Lib.hid HR.out.symm, Lib.hid ⟨HT.out, by omega⟩, HF, HB⟩
  case round =>
    obtain ⟨k, S, hk, hS, rfl, hJ, hK, hF, hB2⟩ := hrel
    have hkm : k < m := by
      rcases Nat.lt_or_ge k m with h | h
      · exact h
      · have h1 := hK.out
        rw [show k = m by omega, HN.out, List.drop_length] at h1
        simp [sumV] at h1
        omega
    obtain ⟨b, off, rfl, hcap, hbl, hcl⟩ := HX.out.at (by omega)
    obtain ⟨c0, c1, c2⟩ := hcl k hkm
    have c0 := cell_later hB2.out c0
    have c1 := cell_later hB2.out c1
    have c2 := cell_later hB2.out c2
    have hkl : k < l.length := by rw [← HN.out]; exact hkm
    have hst := sumV_step (S := S) hkl
    have hJo := hJ.out
    have hKo := hK.out
    rw [hst] at hKo
    rw [above_step hkl] at hJo
    revert c0 c1 c2 hJo hKo
    generalize l.getD k (0, 0, 0) = q
    obtain ⟨x, y, z⟩ := q
    intro c0 c1 c2 hJo hKo
    simp only at c0 c1 c2 hJo hKo
    by_cases ha : addW S x
    · rw [if_pos ha] at hKo
      have HY := Lib.hid (is_above (y := y) (z := z) hF.out hS ha)
      have HBW := Lib.hid (Nat.le_trans (Nat.le_refl _) hB2.out.size)
      have hS2 : S + x.toNat ≤ 1073741824 := by unfold addW at ha; omega
      obtain ⟨S2, hS2e⟩ : ∃ S2, S2 = S + x.toNat := ⟨_, rfl⟩
      rw [← hS2e] at HY hS2 hKo hJo
      by_cases hlt : n < S2
      · have EK : Hid (k = R) := Lib.hid (by rw [if_pos hlt] at hJo; omega)
        clear hJo hKo hst hkl hcl hJ hK ha hS2e
        go_wp2_with (go_at_call 38; refine HY.out.mono ?_; rintro e w2 ⟨rfl, hf2, hb2⟩; have HB3 := Lib.hid (hb2 _ _ hB2.out HBW.out hB); clear hf2 hb2)
        go_ret
        exact ⟨by rw [← EK.out]; rfl, HB3.out⟩
      · have HJ2 : Hid (above n S2 (l.drop (k + 1)) + (k + 1) = R) := Lib.hid (by rw [if_neg hlt] at hJo; omega)
        have HK2 : Hid (sumV S2 (l.drop (k + 1)) = some T ∧ S2 ≤ n) := Lib.hid ⟨hKo.1, by omega⟩
        clear hJo hKo hst hkl hcl hJ hK ha hS2e
        go_wp2_with (go_at_call 38; refine HY.out.mono ?_; rintro e w2 ⟨rfl, hf2, hb2⟩; have HF2 := Lib.hid hf2; have HB3 := Lib.hid (hb2 _ _ hB2.out HBW.out hB); clear hf2 hb2)
        go_roundw
        case rel => exact ⟨k + 1, S2, by omega, hS2, by go_num, HJ2, HK2, HF2, HB3⟩
        case measure => simp [intOf]; omega
    · rw [if_neg ha] at hKo
      exact absurd hKo.1 (by simp)

theorem fs_start {w w1 : World} {n : Nat} (hb : Below (w.alloc (.cells #[.int .i64 (n : Int)] 3)).heap.size (w.alloc (.cells #[.int .i64 (n : Int)] 3)) w1) (hx : Box1 w1 (w.alloc (.cells #[.int .i64 (n : Int)] 3)).heap.size 0) :
    FS (w1.alloc (.cells #[.func (.func 47) #[] #[.pointer (some ⟨w.heap.size + 1, 0, none⟩)]] 57)) (w.heap.size + 1) w1.heap.size w.heap.size 0 n ∧ Below w.heap.size w (w1.alloc (.cells #[.func (.func 47) #[] #[.pointer (some ⟨w.heap.size + 1, 0, none⟩)]] 57)) := by
  rw [World.size_alloc] at hx hb
  have hs := hb.size
  rw [World.size_alloc] at hs
  have h2 : Box1 w1 w.heap.size n := (hb.block w.heap.size (by omega)).trans (heap_alloc_new _ _)
  have hB : Below w.heap.size w w1 := ((Below.refl _ _).alloc (Nat.le_refl _) _).trans (hb.mono (by omega))
  refine ⟨⟨by omega, ?_, ?_, heap_alloc_new _ _⟩, hB.alloc hB.size _⟩
  · exact Box1.below hx ((Below.refl _ _).alloc (Nat.le_refl _) _)
  · exact Box1.below h2 ((Below.refl _ _).alloc (Nat.le_refl _) _)

theorem run_store_func {P : Program} {w : World} {a : Addr} {m : Mode} (f : Fn) (x y : Array Value) : (store a (.func f x y) m).run P w = stored P w a (.func f x y) m := run_store P w a _ m rfl
attribute [local go_sem] run_store_func

set_option maxRecDepth 10000 in
set_option maxHeartbeats 2000000 in
theorem firstAbove_any {w : World} {v : Value} {l : List Ch} (h : Cx w v l) {n T : Nat} (hT : sumV 0 l = some T) (hn : n < T) (hnl : n ≤ 1073741824) :
    Calls Try.prog 26 #[.int .i64 n, v] w fun e w' => e = .returned (.int .i64 (above n 0 l : Nat)) ∧ Below w.heap.size w w' := by
  have HA := Lib.hid (fun W => adder_any W)
  have HI := Lib.hid (fun W B P5 P2 hF hb hB => index_any (W := W) (B := B) (P5 := P5) (P2 := P2) h hF hb hB hT hn)
  obtain ⟨R, hR⟩ : ∃ R, R = above n 0 l := ⟨_, rfl⟩
  rw [← hR] at HI ⊢
  clear hR h hT hn
  go_enter Try.func26, Try.ntmps26
  go_wp2_with (first | (go_at_call 36; refine (HA.out _).mono ?_; rintro e w1 ⟨rfl, hbx, hsz1, hb1⟩; have HB1 := Lib.hid hb1; have HBX := Lib.hid hbx; have HSZ := Lib.hid hsz1; clear hb1 hbx hsz1) | (go_at_call 37; refine (HI.out _ (w.heap.size + 1) _ _ (fs_start HB1.out HBX.out).1 (fs_start HB1.out HBX.out).2 (by omega)).mono ?_; rintro e w3 ⟨rfl, hb3⟩; have HB3 := Lib.hid hb3; clear hb3))
  go_ret
  exact ⟨rfl, HB3.out⟩

end Go.Proofs.Ytafdjohgoopcmaa
