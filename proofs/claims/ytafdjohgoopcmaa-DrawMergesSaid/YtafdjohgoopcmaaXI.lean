/- Contracts: Commit and Joined of draw, of both sides. Condition: the slice reads as strings; a committed seed is shorter than 2^31. -/
import Derived.Test.YtafdjohgoopcmaaXH
namespace Go.Proofs.Ytafdjohgoopcmaa
open Go.RowKit

theorem Sx.at {w : World} {ao : Option Addr} {n cap : Nat} {l : List ByteArray} (h : Sx w (.slice ao n cap) l) (hn : n ≠ 0) : ∃ b off, ao = some ⟨b, off, none⟩ ∧ n ≤ cap ∧ b < w.heap.size ∧ ∀ j, j < n → w.cell? ⟨b, off + j, none⟩ = some (.string (l.getD j ⟨#[]⟩)) := by
  rcases h.is with ⟨rfl, ao2, cap2, e⟩ | ⟨b, off, cap2, e, h1, h2, h3⟩
  · injection e with _ e2 _; exact absurd e2 hn
  · injection e with e1 e2 e3; subst e1 e2 e3; exact ⟨b, off, rfl, h1, h2, h3⟩

def commitC : ByteArray := ⟨#[99, 111, 109, 109, 105, 116]⟩
def commitS (s : ByteArray) : ByteArray := sA (markD commitC s)
theorem commitS_size (s : ByteArray) : (commitS s).size = 8 := by rw [commitS, sA_size]; rfl

set_option maxRecDepth 10000 in
set_option maxHeartbeats 1000000 in
theorem commit_any (s : ByteArray) (hs : s.size < 2147483648) (w : World) : Calls Try.prog 18 #[.string s] w fun e w' => e = .returned (.string (commitS s)) ∧ Below w.heap.size w w' := by
  have HM := Lib.hid (mark_any commitC s (by decide) (by omega) w)
  obtain ⟨r, hr⟩ : ∃ r, r = commitS s := ⟨_, rfl⟩
  rw [show sA (markD commitC s) = r from hr.symm] at HM
  rw [← hr]
  clear hr
  unfold commitC at HM
  go_enter Try.func18, Try.ntmps18
  go_wp2_with (go_at_call 32; refine HM.out.mono ?_; rintro e w1 ⟨rfl, hb1⟩)
  go_ret
  exact ⟨rfl, hb1⟩

set_option maxRecDepth 10000 in
set_option maxHeartbeats 1000000 in
theorem rCommit_any (s : ByteArray) (hs : s.size < 2147483648) (w : World) : Calls Try.prog 19 #[.string s] w fun e w' => e = .returned (.string (commitS s)) ∧ Below w.heap.size w w' := by
  have HM := Lib.hid (rMark_any commitC s (by decide) (by omega) w)
  obtain ⟨r, hr⟩ : ∃ r, r = commitS s := ⟨_, rfl⟩
  rw [show sA (markD commitC s) = r from hr.symm] at HM
  rw [← hr]
  clear hr
  unfold commitC at HM
  go_enter Try.func19, Try.ntmps19
  go_wp2_with (go_at_call 33; refine HM.out.mono ?_; rintro e w1 ⟨rfl, hb1⟩)
  go_ret
  exact ⟨rfl, hb1⟩

def chS (b s : ByteArray) : ByteArray := sA (chainD b s)
theorem chS_size (b s : ByteArray) : (chS b s).size = 8 := by rw [chS, sA_size]; rfl
def chn (b : ByteArray) : List ByteArray → Option ByteArray
  | [] => some b
  | s :: l => if 1 ≤ s.size ∧ s.size ≤ 64 then chn (chS b s) l else none
def joinV (l : List ByteArray) : Option ByteArray := if 1 ≤ l.length ∧ l.length ≤ 5 then chn (ofS ⟨#[]⟩) l else none
/-- What Joined returns. -/
def joinR (o : Option ByteArray) : Value := .tuple #[.string (o.getD ⟨#[]⟩), .bool o.isSome]

theorem chn_step {l : List ByteArray} {k : Nat} {b : ByteArray} (h : k < l.length) : chn b (l.drop k) = if 1 ≤ (l.getD k ⟨#[]⟩).size ∧ (l.getD k ⟨#[]⟩).size ≤ 64 then chn (chS b (l.getD k ⟨#[]⟩)) (l.drop (k + 1)) else none := by
  rw [List.drop_eq_getElem_cons h, chn]
  simp [List.getD, h]

set_option maxRecDepth 10000 in
set_option maxHeartbeats 2000000 in
theorem joined_any {w : World} {v : Value} {l : List ByteArray} (h : Sx w v l) : Calls Try.prog 16 #[v] w fun e w' => e = .returned (joinR (joinV l)) ∧ Below w.heap.size w w' := by
  obtain ⟨ao, cap, rfl⟩ := h.mk'
  have hlen := h.len
  unfold maxLen at hlen
  obtain ⟨n, hn⟩ : ∃ n, n = l.length := ⟨_, rfl⟩
  have HN := Lib.hid hn
  have HX := Lib.hid h
  by_cases hok : 1 ≤ l.length ∧ l.length ≤ 5
  · have HO := Lib.hid (fun W => dOf_any ⟨#[]⟩ (by decide) W)
    have e0 : joinV l = chn (ofS ⟨#[]⟩) l := by rw [joinV, if_pos hok]
    have hz : (ofS ⟨#[]⟩).size = 8 := ofS_size _
    rw [e0]
    rw [show sA (dig (by' ⟨#[]⟩)) = ofS ⟨#[]⟩ from rfl] at HO
    obtain ⟨b0, hb0⟩ : ∃ b0, b0 = ofS ⟨#[]⟩ := ⟨_, rfl⟩
    rw [← hb0] at HO hz ⊢
    obtain ⟨R, hR⟩ : ∃ R, R = chn b0 l := ⟨_, rfl⟩
    have HR := Lib.hid hR
    rw [← hR]
    rw [← hn] at hok hlen HX ⊢
    have HC : Hid (∀ b s W, b.size = 8 → s.size ≤ 64 → Calls Try.prog 29 #[.string b, .string s] W fun e w' => e = .returned (.string (chS b s)) ∧ Below W.heap.size W w') := Lib.hid fun b s W h1 h2 => chain_any b s (by omega) (by omega) W
    have HZ := Lib.hid hz
    obtain ⟨h1, h5⟩ := hok
    clear hR hb0 e0 hn h hz
    go_enter Try.func16, Try.ntmps16
    go_wp2_with (go_at_call 28; refine (HO.out _).mono ?_; rintro e w1 ⟨rfl, hb1⟩; have HB1 := Lib.hid hb1; clear hb1)
    go_loopw [4, 18] (fun bv kv wr => ∃ (k : Nat) (b : ByteArray), k ≤ n ∧ kv = .int .i64 (k : Nat) ∧ bv = .string b ∧ Hid (b.size = 8) ∧ Hid (chn b (l.drop k) = R) ∧ Hid (Below w.heap.size w wr)) (fun _ kv _ => n - (intOf kv).toNat)
    case atStart => exact ⟨0, b0, by omega, rfl, rfl, HZ, Lib.hid HR.out.symm, HB1⟩
    case round =>
      obtain ⟨k, b, hk, rfl, rfl, hz, hJ, hB⟩ := hrel
      by_cases hkn : k = n
      · have e1 : Hid (R = some b) := Lib.hid (by rw [← hJ.out, hkn, HN.out, List.drop_length]; rfl)
        subst hkn
        go_wp2
        go_ret2
        exact ⟨by rw [e1.out]; rfl, hB.out⟩
      · have hlt : k < n := by omega
        obtain ⟨bb, off, rfl, hcap, hbl, hcl⟩ := HX.out.at (by omega)
        have hc := cell_later hB.out (hcl k hlt)
        have hJo := hJ.out
        rw [chn_step (by rw [← HN.out]; exact hlt)] at hJo
        have hCS := fun h2 => HC.out b (l.getD k ⟨#[]⟩) wr hz.out h2
        have hsl : ∀ m : Nat, m = (l.getD k ⟨#[]⟩).size → m < 9223372036854775808 ∨ ¬ (1 ≤ m ∧ m ≤ 64) := fun m _ => by omega
        obtain ⟨s, hs⟩ : ∃ s, s = l.getD k ⟨#[]⟩ := ⟨_, rfl⟩
        rw [← hs] at hc hJo hCS
        clear hs hcl hJ hbl hsl
        by_cases ha : 1 ≤ s.size ∧ s.size ≤ 64
        · rw [if_pos ha] at hJo
          have HJ := Lib.hid hJo
          have HCS := Lib.hid (hCS ha.2)
          obtain ⟨ha1, ha2⟩ := ha
          have HZ2 : Hid ((chS b s).size = 8) := Lib.hid (chS_size b s)
          obtain ⟨b2, hb2⟩ : ∃ b2, b2 = chS b s := ⟨_, rfl⟩
          rw [← hb2] at HJ HCS HZ2
          clear hJo hCS hb2
          go_wp2_with (go_at_call 29; refine HCS.out.mono ?_; rintro e w2 ⟨rfl, hb2⟩; have HB2 := Lib.hid (hB.out.trans (hb2.mono hB.out.size)); clear hb2)
          go_roundw
          case rel => exact ⟨k + 1, b2, by omega, by go_num, rfl, HZ2, HJ, HB2⟩
          case measure => simp [intOf]; omega
        · rw [if_neg ha] at hJo
          have HJ : Hid (R = none) := Lib.hid hJo.symm
          have h3 : s.size < 1 ∨ 64 < s.size := by omega
          clear hJo ha hCS
          by_cases h4 : s.size < 1
          · clear h3
            go_wp2
            go_ret2
            exact ⟨by rw [HJ.out]; rfl, hB.out⟩
          · have h5 : 64 < s.size := by omega
            clear h3
            go_wp2
            go_ret2
            exact ⟨by rw [HJ.out]; rfl, hB.out⟩
  · have e0 : joinV l = none := by rw [joinV, if_neg hok]
    rw [e0]
    rw [← hn] at hok hlen ⊢
    have h3 : n < 1 ∨ 5 < n := by omega
    clear hok e0 hn h
    by_cases h4 : n < 1
    · clear h3
      go_enter Try.func16, Try.ntmps16
      go_wp2
      go_ret2
      exact ⟨rfl, Below.refl _ _⟩
    · have h5 : 5 < n := by omega
      clear h3
      go_enter Try.func16, Try.ntmps16
      go_wp2
      go_ret2
      exact ⟨rfl, Below.refl _ _⟩

end Go.Proofs.Ytafdjohgoopcmaa
