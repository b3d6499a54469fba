/- Contracts: addList and Ints of wire. Condition: at most 1000 numbers. -/
import Derived.Test.YtafdjohgoopcmaaWD
namespace Go.Proofs.Ytafdjohgoopcmaa
open Go.RowKit

theorem conv_own {W : World} {B m cap : Nat} {ao : Option Addr} {xs : List UInt8} (h : W.ownsRow B 5 1 (.slice ao m cap) m (chars xs)) (hm : m = xs.length) (hne : 0 < m) : (convert 42 9 (.slice ao m cap)).run Try.prog W = .ok (.string (sA xs)) W := by
  rcases h.2 with ⟨_, h0⟩ | ⟨g, cap2, cur, hv, hB, hg, hc, hmm, hs, ht⟩
  · omega
  · injection hv with h1 h2 h3
    subst h1 h3
    have hb : Lib.Bytes W g 0 (sA xs) := fun i hi => by
      rw [sA_size] at hi
      have e : (cur.toList.take (m * 1))[i]? = (chars xs)[i]? := by rw [ht]
      rw [List.getElem?_take_of_lt (by omega)] at e
      rw [cell_of_row _ _ _ _ _ _ hg, Nat.zero_add, ← Array.getElem?_toList, e]
      simp [chars, hi, sA, ByteArray.getElem_eq_getElem_data]
    have := Lib.run_convert_whole (P := Try.prog) W 42 5 9 Try.underlying42 Try.underlying5 Try.underlying9 g 0 (sA xs) hb cap
    rwa [sA_size, ← hm] at this

theorem intsB_ne (l : List Int) : 0 < (intsB l).length := by
  have := leb_ne (codeN l.length)
  simp only [intsB, List.length_append]
  omega

set_option maxRecDepth 10000 in
set_option maxHeartbeats 2000000 in
theorem addList_any {w : World} {v : Value} {l : List Int} (h : Ix w v l) (hn : l.length ≤ 1000) :
    Calls Try.prog 48 #[.slice none 0 0, v, .func (.func 49) #[] #[]] w fun e w' => ∃ ao2 cap2 m2, e = .returned (.slice ao2 m2 cap2) ∧ m2 = (intsB l).length ∧ w'.ownsRow w.heap.size 5 1 (.slice ao2 m2 cap2) m2 (chars (intsB l)) ∧ Below w.heap.size w w' := by
  have HE := Lib.hid (fun W ao m cap (xs : List UInt8) hm hO hml hW => addEach_any h hn (W := W) (ao := ao) (m := m) (cap := cap) (xs := xs) rfl hW hm hO hml)
  have hA := addInt_S w.heap.size ⟨_, rfl⟩ w none 0 0 [] (l.length : Int) rfl (World.ownsRow_nil _ _ _ _) (by omega) (Nat.le_refl _) (by omega) (by omega)
  have hz := leb_len10 (codeN_lt (n := (l.length : Int)) (by omega) (by omega))
  obtain ⟨ao3, cap3, rfl⟩ := h.mk'
  rw [List.nil_append] at hA
  obtain ⟨L, hL⟩ : ∃ L, L = leb (codeN (l.length : Int)) := ⟨_, rfl⟩
  have e1 : intsB l = L ++ intsL l := by rw [hL]; rfl
  rw [e1]
  rw [← hL] at hA hz
  obtain ⟨n, hnn⟩ : ∃ n, n = l.length := ⟨_, rfl⟩
  rw [← hnn] at hA HE hn ⊢
  have HA := Lib.hid hA
  have HZ := Lib.hid hz
  clear hL e1 hA hz hnn h
  go_enter Try.func48, Try.ntmps48
  go_wp2_with (first | (go_at_call 49; refine HA.out.mono ?_; rintro e w3 ⟨ao4, cap4, m4, rfl, hm4, ho4, hb4⟩; have HM4 := Lib.hid hm4; have HO4 := Lib.hid ho4; have HB4 := Lib.hid hb4; clear hm4 ho4 hb4) | (go_at_call 51; refine (HE.out _ _ _ _ _ HM4.out HO4.out (by rw [HM4.out]; exact HZ.out) HB4.out).mono ?_; rintro e w5 ⟨ao6, cap6, m6, rfl, hm6, ho6, hb6⟩; have HM6 := Lib.hid hm6; have HO6 := Lib.hid ho6; have HB6 := Lib.hid hb6; clear hm6 ho6 hb6))
  go_ret
  exact ⟨_, _, _, rfl, HM6.out, HO6.out, HB4.out.trans HB6.out⟩

set_option maxRecDepth 10000 in
set_option maxHeartbeats 2000000 in
theorem ints_any {w : World} {v : Value} {l : List Int} (h : Ix w v l) (hn : l.length ≤ 1000) :
    Calls Try.prog 45 #[v] w fun e w' => e = .returned (.string (sA (intsB l))) ∧ Below w.heap.size w w' := by
  have HL := Lib.hid (addList_any h hn)
  obtain ⟨ao3, cap3, rfl⟩ := h.mk'
  obtain ⟨n, hnn⟩ : ∃ n, n = l.length := ⟨_, rfl⟩
  have hne := intsB_ne l
  obtain ⟨L, hL⟩ : ∃ L, L = intsB l := ⟨_, rfl⟩
  rw [← hnn] at HL hn ⊢
  rw [← hL] at HL hne ⊢
  have HNE := Lib.hid hne
  clear hL hne hnn h
  go_enter Try.func45, Try.ntmps45
  go_wp2_with (go_at_call 48; refine HL.out.mono ?_; rintro e w3 ⟨ao4, cap4, m4, rfl, hm4, ho4, hb4⟩; have hconv := conv_own ho4 hm4 (by have := HNE.out; omega); have HB4 := Lib.hid hb4; clear hm4 ho4 hb4)
  go_ret
  exact ⟨rfl, HB4.out⟩

end Go.Proofs.Ytafdjohgoopcmaa
