/- Contracts: adder and its closure, sum. Condition: the slice reads as choices. -/
import Derived.Test.YtafdjohgoopcmaaXD
namespace Go.Proofs.Ytafdjohgoopcmaa
open Go.RowKit

/-- A choice: weight, size, arm. -/
abbrev Ch := Int × Int × Int

/-- A slice that reads as choices. -/
structure Cx (w : World) (v : Value) (l : List Ch) : Prop where
  len : l.length ≤ maxLen
  fit : ∀ k, I64 (l.getD k (0, 0, 0)).1
  is : (l = [] ∧ ∃ ao cap, v = .slice ao 0 cap) ∨ ∃ b off cap, v = .slice (some ⟨b, off, none⟩) l.length cap ∧ l.length ≤ cap ∧ b < w.heap.size ∧ ∀ j, j < l.length → w.cell? ⟨b, off + j * 3, none⟩ = some (.int .i64 (l.getD j (0, 0, 0)).1) ∧ w.cell? ⟨b, off + j * 3 + 1, none⟩ = some (.int .i64 (l.getD j (0, 0, 0)).2.1) ∧ w.cell? ⟨b, off + j * 3 + 2, none⟩ = some (.int .i64 (l.getD j (0, 0, 0)).2.2)

theorem Cx.below {w w' : World} {v : Value} {l : List Ch} (h : Cx w v l) (hb : Below w.heap.size w w') : Cx w' v l := by
  obtain ⟨h1, h2, h3⟩ := h
  refine ⟨h1, h2, ?_⟩
  rcases h3 with h3 | ⟨b, off, cap, hv, hc, hlt, hl⟩
  · exact .inl h3
  · exact .inr ⟨b, off, cap, hv, hc, Nat.lt_of_lt_of_le hlt hb.size, fun j hj => ⟨cell_later hb (hl j hj).1, cell_later hb (hl j hj).2.1, cell_later hb (hl j hj).2.2⟩⟩

theorem Cx.mk' {w : World} {v : Value} {l : List Ch} (h : Cx w v l) : ∃ ao cap, v = .slice ao l.length cap := by
  rcases h.is with ⟨rfl, ao, cap, rfl⟩ | ⟨b, off, cap, rfl, _⟩
  · exact ⟨_, _, rfl⟩
  · exact ⟨_, _, rfl⟩

theorem Cx.at {w : World} {ao : Option Addr} {n cap : Nat} {l : List Ch} (h : Cx w (.slice ao n cap) l) (hn : n ≠ 0) : ∃ b off, ao = some ⟨b, off, none⟩ ∧ n ≤ cap ∧ b < w.heap.size ∧ ∀ j, j < n → w.cell? ⟨b, off + j * 3, none⟩ = some (.int .i64 (l.getD j (0, 0, 0)).1) ∧ w.cell? ⟨b, off + j * 3 + 1, none⟩ = some (.int .i64 (l.getD j (0, 0, 0)).2.1) ∧ w.cell? ⟨b, off + j * 3 + 2, none⟩ = some (.int .i64 (l.getD j (0, 0, 0)).2.2) := by
  rcases h.is with ⟨rfl, ao2, cap2, e⟩ | ⟨b, off, cap2, e, h1, h2, h3⟩
  · injection e with _ e2 _; exact absurd e2 hn
  · injection e with e1 e2 e3; subst e1 e2 e3; exact ⟨b, off, rfl, h1, h2, h3⟩

/-- The sum of weights that are permitted. -/
def addW (S : Nat) (x : Int) : Prop := 1 ≤ x ∧ x ≤ 1073741824 - (S : Int)
instance (S : Nat) (x : Int) : Decidable (addW S x) := by unfold addW; infer_instance
def sumV : Nat → List Ch → Option Nat
  | S, [] => some S
  | S, c :: l => if addW S c.1 then sumV (S + c.1.toNat) l else none

theorem drop_step {l : List Ch} {k : Nat} (h : k < l.length) : l.drop k = l.getD k (0, 0, 0) :: l.drop (k + 1) := by
  rw [List.drop_eq_getElem_cons h]
  simp [List.getD, h]

/-- A block of one int. -/
abbrev Box1 (W : World) (B : Nat) (S : Int) : Prop := W.heap[B]? = some (.cells #[.int .i64 S] 3 (0, 0))

set_option maxRecDepth 10000 in
set_option maxHeartbeats 1000000 in
theorem adder_any (w : World) : Calls Try.prog 36 #[] w fun e w' => e = .returned (.func (.func 47) #[] #[.pointer (some ⟨w.heap.size, 0, none⟩)]) ∧ Box1 w' w.heap.size 0 ∧ w'.heap.size = w.heap.size + 1 ∧ Below w.heap.size w w' := by
  go_enter Try.func36, Try.ntmps36
  go_wp2
  go_ret
  exact ⟨rfl, heap_alloc_new _ _, by simp, by go_grown⟩

set_option maxRecDepth 10000 in
set_option maxHeartbeats 1000000 in
theorem add_yes {w : World} {B S : Nat} {x : Int} (h : Box1 w B S) (hS : S ≤ 1073741824) (hx : addW S x) : Calls Try.prog 47 #[.int .i64 x, .pointer (some ⟨B, 0, none⟩)] w fun e w' => e = .returned (.tuple #[.int .i64 ((S + x.toNat : Nat) : Int), .bool true]) ∧ Box1 w' B ((S + x.toNat : Nat) : Int) ∧ w'.heap.size = w.heap.size ∧ Below B w w' ∧ w' = w.setCell ⟨B, 0, none⟩ (.int .i64 ((S + x.toNat : Nat) : Int)) := by
  obtain ⟨h1, h2⟩ := hx
  have hc := cell_of_one h
  have hf := free_of_one h
  have HB := Lib.hid h
  clear h
  go_enter Try.func47, Try.ntmps47
  go_wp2
  go_ret2
  have e : ((S + x.toNat : Nat) : Int) = (S : Int) + x := by omega
  rw [e]
  exact ⟨rfl, heap_setCell_same _ B 0 _ 3 _ HB.out, by simp [World.setCell], Below.setCell (B := B) (Below.refl B w) (p := ⟨B, 0, none⟩) (Nat.le_refl B) _, rfl⟩

set_option maxRecDepth 10000 in
set_option maxHeartbeats 1000000 in
theorem add_no {w : World} {B S : Nat} {x : Int} (h : Box1 w B S) (hS : S ≤ 1073741824) (hi : I64 x) (hx : ¬ addW S x) : Calls Try.prog 47 #[.int .i64 x, .pointer (some ⟨B, 0, none⟩)] w fun e w' => e = .returned (.tuple #[.int .i64 0, .bool false]) ∧ w' = w := by
  have hc := cell_of_one h
  have h3 : x < 1 ∨ 1073741824 - (S : Int) < x := by unfold addW at hx; omega
  clear h hx
  by_cases h1 : x < 1
  · clear h3
    go_enter Try.func47, Try.ntmps47
    go_wp2
    go_ret2
    exact ⟨rfl, rfl⟩
  · have h4 : 1073741824 - (S : Int) < x := by omega
    clear h3
    go_enter Try.func47, Try.ntmps47
    go_wp2
    go_ret2
    exact ⟨rfl, rfl⟩

theorem sumV_step {l : List Ch} {k S : Nat} (h : k < l.length) : sumV S (l.drop k) = if addW S (l.getD k (0, 0, 0)).1 then sumV (S + (l.getD k (0, 0, 0)).1.toNat) (l.drop (k + 1)) else none := by
  rw [drop_step h, sumV]

/-- The sum, or 0. -/
def total (l : List Ch) : Nat := (sumV 0 l).getD 0

theorem Box1.below {W W' : World} {B : Nat} {S : Int} (h : Box1 W B S) (hb : Below W.heap.size W W') : Box1 W' B S := (hb.block B (Array.getElem?_eq_some_iff.1 h).1).trans h

set_option maxRecDepth 10000 in
set_option maxHeartbeats 2000000 in
theorem sum_any {w : World} {v : Value} {l : List Ch} (h : Cx w v l) : Calls Try.prog 25 #[v] w fun e w' => e = .returned (.int .i64 (total l : Nat)) ∧ Below w.heap.size w w' := by
  obtain ⟨ao, cap, rfl⟩ := h.mk'
  have hlen := h.len
  unfold maxLen at hlen
  obtain ⟨n, hn⟩ : ∃ n, n = l.length := ⟨_, rfl⟩
  have HN := Lib.hid hn
  have HX := Lib.hid h
  rw [← hn] at hlen HX ⊢
  obtain ⟨R, hR⟩ : ∃ R, R = total l := ⟨_, rfl⟩
  have HR := Lib.hid hR
  rw [← hR]
  have HA := Lib.hid (fun W => adder_any W)
  clear h hn hR
  go_enter Try.func25, Try.ntmps25
  go_wp2_with (go_at_call 36; refine (HA.out _).mono ?_; rintro e w1 ⟨rfl, hbx, hsz1, hb1⟩; have HB1 := Lib.hid hb1; have HBX := Lib.hid hbx; have HSZ := Lib.hid hsz1; clear hb1 hbx hsz1)
  go_loopw [4, 12] (fun tv kv wr => ∃ k S : Nat, k ≤ n ∧ S ≤ 1073741824 ∧ kv = .int .i64 (k : Nat) ∧ tv = .int .i64 (S : Nat) ∧ Hid ((sumV S (l.drop k)).getD 0 = R) ∧ Hid (Box1 wr w.heap.size S) ∧ Hid (Below w.heap.size w wr)) (fun _ kv _ => n - (intOf kv).toNat)
  case atStart => exact ⟨0, 0, by omega, by omega, rfl, rfl, Lib.hid HR.out.symm, Lib.hid HBX.out, Lib.hid HB1.out⟩
  case round =>
    obtain ⟨k, S, hk, hS, rfl, rfl, hJ, hBx, hB⟩ := hrel
    by_cases hkn : k = n
    · have e1 : S = R := by
        have := hJ.out
        rw [hkn, HN.out, List.drop_length] at this
        exact this
      subst hkn e1
      clear hJ
      go_wp2
      go_ret
      exact ⟨rfl, hB.out⟩
    · have hlt : k < n := by omega
      obtain ⟨b, off, rfl, hcap, hbl, hcl⟩ := HX.out.at (by omega)
      obtain ⟨c0, c1, c2⟩ := hcl k hlt
      have c0 := cell_later hB.out c0
      have c1 := cell_later hB.out c1
      have c2 := cell_later hB.out c2
      have hfit := HX.out.fit k
      have hst := sumV_step (S := S) (show k < l.length by rw [← HN.out]; exact hlt)
      have hJo := hJ.out
      rw [hst] at hJo
      revert c0 c1 c2 hfit hJo
      generalize l.getD k (0, 0, 0) = q
      obtain ⟨x, y, z⟩ := q
      intro c0 c1 c2 hfit hJo
      simp only at c0 c1 c2 hfit hJo
      have hBo := fun o => Box1.below hBx.out (Below.alloc (Below.refl _ wr) (Nat.le_refl _) o)
      have hBl : w.heap.size ≤ wr.heap.size := hB.out.size
      have HBL := Lib.hid hBl
      clear hst hcl hJ hbl
      by_cases ha : addW S x
      · rw [if_pos ha] at hJo
        have HJ := Lib.hid hJo
        have hS2 : S + x.toNat ≤ 1073741824 := by unfold addW at ha; omega
        have HY := Lib.hid (fun o => add_yes (hBo o) hS ha)
        obtain ⟨S2, hS2e⟩ : ∃ S2, S2 = S + x.toNat := ⟨_, rfl⟩
        rw [← hS2e] at HY hS2 HJ
        clear hJo hBo ha hS2e
        go_wp2_with (go_at_call 47; refine (HY.out _).mono ?_; rintro e w2 ⟨rfl, hbx2, hsz2, hb2, -⟩; have HBX2 := Lib.hid hbx2; have HB2 := Lib.hid ((hB.out.alloc HBL.out _).trans hb2); clear hbx2 hsz2 hb2)
        go_roundw
        case rel => exact ⟨k + 1, S2, by omega, hS2, by go_num, rfl, HJ, HBX2, HB2⟩
        case measure => simp [intOf]; omega
      · rw [if_neg ha] at hJo
        have HJ := Lib.hid hJo
        have HY := Lib.hid (fun o => add_no (hBo o) hS hfit ha)
        clear hJo hBo ha
        go_wp2_with (go_at_call 47; refine (HY.out _).mono ?_; rintro e w2 ⟨rfl, rfl⟩)
        go_ret
        exact ⟨by rw [← HJ.out]; rfl, hB.out.alloc HBL.out _⟩

end Go.Proofs.Ytafdjohgoopcmaa
