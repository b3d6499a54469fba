/- The law DrawJoins, walked. Condition: strings of lengths that Go permits. -/
import Derived.Test.YtafdjohgoopcmaaLP
namespace Go.Proofs.Ytafdjohgoopcmaa
open Go.RowKit

theorem Try.info9 : (Try.prog.info? 9).map (fun i => (i.zero, i.size, i.bytes)) = some (some (.string ⟨#[]⟩), 1, 16) := by kernel_rfl

/-- Strings as cells. -/
def sv (l : List ByteArray) : List Value := l.map Value.string
theorem sv_append (a b : List ByteArray) : sv (a ++ b) = sv a ++ sv b := by simp [sv]

def appS (ty : TypeId) (vs : Array Value) : Sem Value := Builtin.append_ #[37, 37] ty vs
theorem appS_rw (ty : TypeId) (vs : Array Value) : Builtin.append_ #[37, 37] ty vs = appS ty vs := rfl

/-- A slice of strings of the call's own. -/
abbrev OwS (W : World) (B : Nat) (v : Value) (n : Nat) (l : List ByteArray) : Prop := W.ownsRow B 9 1 v n (sv l)

theorem push_string {W : World} {B n : Nat} {v : Value} {l : List ByteArray} (h : OwS W B v n l) (hn : n ≤ 1000) (hB : B ≤ W.heap.size) (s : ByteArray) :
    ∃ ao cap2 w2, Sem.run Try.prog (appS 37 #[v, .slice (some ⟨W.heap.size, 0, none⟩) 1 1]) (W.alloc (.cells #[.string s] 9)) = .ok (.slice ao (n + 1) cap2) w2 ∧ OwS w2 B (.slice ao (n + 1) cap2) (n + 1) (l ++ [s]) ∧ Below B W w2 := by
  obtain ⟨i0, hii, hz0, hz1, hz2⟩ := info_parts Try.info9
  have hown3 : (W.alloc (.cells #[.string s] 9)).ownsRow B 9 1 v n (sv l) := owns_later h ((Below.refl _ _).alloc (Nat.le_refl _) _)
  obtain ⟨v4, w4, hrun4, hown4, hgrow4, _⟩ := run_append_own (P := Try.prog) (w := W.alloc (.cells #[.string s] 9)) B 37 37 9 i0 (.string ⟨#[]⟩) 1 16 Try.underlying37 hii hz0 hz1 hz2 rfl (by decide) _ n _ hown3 ⟨W.heap.size, 0, none⟩ 1 1 [.string s] rfl (cell_one_new W (.string s) 9) (fun x hx => by simp at hx; subst hx; rfl) (by unfold maxLen; omega) (by omega) (by simp; omega)
  rw [appS_rw] at hrun4
  obtain ⟨ao4, cap4, rfl⟩ := slice_of_owns hown4
  exact ⟨ao4, cap4, w4, hrun4, by rw [OwS, sv_append]; exact hown4, (((Below.refl B W).alloc hB _)).grown hgrow4 (by simp; omega) (fun j hj => (hown3.lt j hj).1)⟩

/-- The first k of them, as a slice. -/
theorem OwS.sx {W : World} {B n cap : Nat} {ao : Option Addr} {l : List ByteArray} (h : OwS W B (.slice ao n cap) n l) (hn : n ≤ 1000) {k : Nat} (hk : k ≤ n) : Sx W (.slice ao k cap) (l.take k) := by
  have hl : l.length = n := by have := h.1; simpa [sv] using this
  rcases h.2 with ⟨hv, h0⟩ | ⟨g, cap2, cur, hv, hB, hg, hc, hm, hs, ht⟩
  · obtain rfl : k = 0 := by omega
    exact Sx.nil _ _ _
  · injection hv with e1 e2 e3
    subst e1 e3
    have hlk : (l.take k).length = k := by rw [List.length_take]; omega
    refine ⟨by rw [hlk]; unfold maxLen; omega, .inr ⟨g, 0, cap, by rw [hlk], by rw [hlk]; omega, (Array.getElem?_eq_some_iff.1 hg).1, fun j hj => ?_⟩⟩
    rw [hlk] at hj
    have e : (cur.toList.take (n * 1))[j]? = (sv l)[j]? := by rw [ht]
    rw [List.getElem?_take_of_lt (by omega)] at e
    rw [cell_of_row _ _ _ _ _ _ hg, Nat.zero_add, ← Array.getElem?_toList, e]
    rw [show (l.take k).getD j ⟨#[]⟩ = l.getD j ⟨#[]⟩ by simp [List.getD, List.getElem?_take, hj]]
    have hjl : j < l.length := by omega
    simp [sv, List.getD, hjl]

/-- The seeds, each cut. -/
def cutL (l : List ByteArray) (k : Nat) : List ByteArray := (List.range k).map fun i => cutS (l.getD i ⟨#[]⟩) 70
theorem cutL_len (l : List ByteArray) (k : Nat) : (cutL l k).length = k := by simp [cutL]
theorem cutL_succ (l : List ByteArray) (k : Nat) : cutL l (k + 1) = cutL l k ++ [cutS (l.getD k ⟨#[]⟩) 70] := by simp [cutL, List.range_succ]
theorem cutL_get {l : List ByteArray} {k i : Nat} (h : i < k) : (cutL l k).getD i ⟨#[]⟩ = cutS (l.getD i ⟨#[]⟩) 70 := by simp [cutL, List.getD, h]

attribute [local go_sem ↓] appS_rw

theorem step1 {B : Nat} {w W W' : World} (h : Hid (Below B w W)) (hB : Hid (B ≤ W.heap.size)) (hb : Below W.heap.size W W') : Hid (Below B w W') ∧ Hid (B ≤ W'.heap.size) := ⟨h.out.trans (hb.mono hB.out), Nat.le_trans hB.out hb.size⟩
theorem stepD {B : Nat} {w W W' : World} (h : Hid (Below B w W)) (hB : Hid (B ≤ W.heap.size)) (hb : Below W.drew.heap.size W.drew W') : Hid (Below B w W') ∧ Hid (B ≤ W'.heap.size) :=
  step1 h hB ((show Below W.heap.size W W.drew from ⟨rfl, rfl, rfl, Nat.le_refl _, fun _ _ => rfl⟩).trans hb)

set_option maxRecDepth 100000 in
set_option maxHeartbeats 4000000 in
theorem drawJoins_any {w : World} {v : Value} {l : List ByteArray} (hX : Sx w v l) (hsz : ∀ s ∈ l, s.size ≤ 9223372036854775807) :
    Calls Try.prog 5 #[v] w fun e w' => e = .returned (.bool true) ∧ Below w.heap.size w w' := by
  have HS := Lib.hid (fun W => sanity_any W)
  have HX := Lib.hid hX
  have hn63 := hX.len
  unfold maxLen at hn63
  have HSZ : Hid (∀ k, (l.getD k ⟨#[]⟩).size ≤ 9223372036854775807) := Lib.hid (small_getD hsz)
  obtain ⟨ao0, cap0, rfl⟩ := hX.mk'
  obtain ⟨n, hn⟩ : ∃ n, n = l.length := ⟨_, rfl⟩
  rw [← hn] at HX hn63 ⊢
  clear hn hX hsz
  go_enter Try.func5, Try.ntmps5
  go_wp2_with (go_at_call 9; refine (HS.out _).mono ?_; rintro e w1 ⟨rfl, hb1⟩; have HB1 := Lib.hid hb1; clear hb1)
  obtain ⟨m, hm⟩ : ∃ m, m = min n 8 := ⟨_, rfl⟩
  have hm8 : m ≤ 8 := by omega
  have hmn : m ≤ n := by omega
  have HM := Lib.hid hm
  clear hm
  go_loopw [4, 5] (fun sv_ kv wr => ∃ (j : Nat) (ao2 : Option Addr) (cap2 : Nat), j ≤ m ∧ kv = .int .i64 (j : Nat) ∧ sv_ = .slice ao2 j cap2 ∧ Hid (OwS wr w1.heap.size (.slice ao2 j cap2) j (cutL l j)) ∧ Hid (Below w1.heap.size w1 wr)) (fun _ kv _ => m - (intOf kv).toNat)
  case atStart => exact ⟨0, none, 0, by omega, rfl, rfl, Lib.hid (World.ownsRow_nil _ _ _ _), Lib.hid (Below.refl _ _)⟩
  case round =>
    obtain ⟨j, ao2, cap2, hj, rfl, rfl, hO, hB⟩ := hrel
    by_cases hjm : j = m
    · have hend : ¬ j < n ∨ ¬ j < 8 := by have := HM.out; omega
      subst hjm
      have hsx : Hid (∀ k, k ≤ j → Sx wr (.slice ao2 k cap2) ((cutL l j).take k)) := Lib.hid fun k hk => OwS.sx hO.out (by omega) hk
      have hcap : j ≤ cap2 := by
        rcases hO.out.2 with ⟨hv, h0⟩ | ⟨g, cap3, cur, hv, hB, hg, hc, hm, hs, ht⟩
        · omega
        · injection hv with e1 e2 e3
          subst e3
          exact hc
      have hao : Hid (0 < j → ∃ g, ao2 = some ⟨g, 0, none⟩ ∧ ∀ i, i < j → wr.cell? ⟨g, i, none⟩ = some (.string (cutS (l.getD i ⟨#[]⟩) 70))) := Lib.hid fun h0 => by
        rcases hO.out.2 with ⟨hv, h1⟩ | ⟨g, cap3, cur, hv, hB, hg, hc, hm, hs, ht⟩
        · omega
        · injection hv with e1 e2 e3
          refine ⟨g, e1, fun i hi => ?_⟩
          have e : (cur.toList.take (j * 1))[i]? = (sv (cutL l j))[i]? := by rw [ht]
          rw [List.getElem?_take_of_lt (by omega)] at e
          rw [cell_of_row _ _ _ _ _ _ hg, ← Array.getElem?_toList, e]
          have hl : i < (cutL l j).length := by rw [cutL_len]; exact hi
          have h2 := cutL_get (l := l) hi
          rw [← h2]
          simp [sv, List.getD, hl]
      have HB2 : Hid (Below w.heap.size w wr) := Lib.hid (HB1.out.trans (hB.out.mono HB1.out.size))
      clear hO hB
      have HJ : Hid (∀ k W, k ≤ j → Below wr.heap.size wr W → Calls Try.prog 16 #[.slice ao2 k cap2] W fun e w' => e = .returned (joinR (joinV ((cutL l j).take k))) ∧ Below W.heap.size W w') := Lib.hid fun k W hk hb => joined_any ((hsx.out k hk).below hb)
      have HR : Hid (∀ k W, k ≤ j → Below wr.heap.size wr W → Calls Try.prog 17 #[.slice ao2 k cap2] W fun e w' => e = .returned (joinR (joinV ((cutL l j).take k))) ∧ Below W.heap.size W w') := Lib.hid fun k W hk hb => rJoined_any ((hsx.out k hk).below hb)
      clear hsx
      rcases Nat.lt_or_ge j n with h1 | h1
      all_goals
        go_wp2
        go_loopw [6] (fun kv wq => ∃ k : Nat, k ≤ j + 1 ∧ kv = .int .i64 (k : Nat) ∧ Hid (Below wr.heap.size wr wq)) (fun kv _ => j + 1 - (intOf kv).toNat)
        case atStart => exact ⟨0, by omega, rfl, Lib.hid (Below.refl _ _)⟩
        case round =>
          obtain ⟨k, hk, rfl, hQ⟩ := hrel
          by_cases hkj : k = j + 1
          · subst hkj
            go_wp2
            go_ret
            exact ⟨rfl, HB2.out.trans (hQ.out.mono HB2.out.size)⟩
          · have hkl : k ≤ j := by omega
            have hkc : k ≤ cap2 := by omega
            have HJk := Lib.hid (fun W hb => HJ.out k W hkl hb)
            have HRk := Lib.hid (fun W hb => HR.out k W hkl hb)
            obtain ⟨S, hS⟩ : ∃ S, S = (joinV ((cutL l j).take k)).getD ⟨#[]⟩ := ⟨_, rfl⟩
            obtain ⟨O, hO⟩ : ∃ O, O = (joinV ((cutL l j).take k)).isSome := ⟨_, rfl⟩
            unfold joinR at HJk HRk
            rw [← hS, ← hO] at HJk HRk
            clear hS hO
            have hneq : ∀ W, (binOp .neq 9 (.string S) (.string S)).run Try.prog W = .ok (.bool false) W := fun W => by rw [neq_str]; simp
            by_cases hk0 : k = 0
            · subst hk0
              go_wp2_with (first | (go_at_call 16; refine (HJk.out _ hQ.out).mono ?_; rintro e w4 ⟨rfl, hb4⟩; have HB4 := Lib.hid (hQ.out.trans (hb4.mono hQ.out.size)); clear hb4) | (go_at_call 17; refine (HRk.out _ HB4.out).mono ?_; rintro e w5 ⟨rfl, hb5⟩; have HB5 := Lib.hid (HB4.out.trans (hb5.mono HB4.out.size)); clear hb5))
              go_region
              go_wp2
              go_roundw
              case rel => exact ⟨0 + 1, by omega, by go_num, Lib.hid HB5.out.drew⟩
              case measure => simp [intOf]
            · obtain ⟨i, rfl⟩ : ∃ i, k = i + 1 := ⟨k - 1, by omega⟩
              obtain ⟨g, hg, hcl⟩ := hao.out (by omega)
              subst hg
              have hci := hcl i (by omega)
              have hx70 : (cutS (l.getD i ⟨#[]⟩) 70).size < 2147483648 := by rw [cutS_size]; omega
              obtain ⟨x, hx⟩ : ∃ x, x = cutS (l.getD i ⟨#[]⟩) 70 := ⟨_, rfl⟩
              rw [← hx] at hci hx70
              have HCI := Lib.hid hci
              have H18 := Lib.hid (fun W => commit_any x hx70 W)
              have H19 := Lib.hid (fun W => rCommit_any x hx70 W)
              obtain ⟨cx, hcx⟩ : ∃ cx, cx = commitS x := ⟨_, rfl⟩
              rw [← hcx] at H18 H19
              have hneq2 : ∀ W, (binOp .neq 9 (.string cx) (.string cx)).run Try.prog W = .ok (.bool false) W := fun W => by rw [neq_str]; simp
              clear hx hcx hcl hci hx70
              go_wp2_with (first | (go_at_call 16; refine (HJk.out _ hQ.out).mono ?_; rintro e w4 ⟨rfl, hb4⟩; have HB4 := Lib.hid (hQ.out.trans (hb4.mono hQ.out.size)); clear hb4) | (go_at_call 17; refine (HRk.out _ HB4.out).mono ?_; rintro e w5 ⟨rfl, hb5⟩; have HB5 := Lib.hid (HB4.out.trans (hb5.mono HB4.out.size)); clear hb5))
              have HK : Hid (∀ W, Below w5.heap.size w5 W → W.cell? ⟨g, i, none⟩ = some (.string x)) := Lib.hid fun W h => cell_later (HB5.out.trans (h.mono HB5.out.size)) HCI.out
              have HD : Hid (Below w5.heap.size w5 w5) := Lib.hid (Below.refl _ _)
              have HE : Hid (w5.heap.size ≤ w5.heap.size) := Lib.hid (Nat.le_refl _)
              have k0 := HK.out _ HD.out
              have hi0 : (0 : Int) ≤ (i : Int) := by omega
              have hin : (i : Int) < (j : Int) := by omega
              have hin2 : i < j := by omega
              have hw1 : IntKind.i64.wrap ((i : Int) + 1 - 1) = (i : Int) := by rw [IntKind.wrap_i64]; omega
              have hw2 : IntKind.i64.wrap (i : Int) = (i : Int) := by rw [IntKind.wrap_i64]; omega
              have hw3 : IntKind.i64.wrap ((i : Int) + 1 + -1) = (i : Int) := by rw [IntKind.wrap_i64]; omega
              go_region_held3 (fun w' => w'.cell? ⟨g, i, none⟩ = some (.string x))
                (first | (with_reducible exact HK.out _ HD.out) | (refine HK.out _ (HD.out.trans (Below.mono (?_ : Below w5.heap.size w5 _) HE.out)); (go_grown; done)))
                ((first | (go_at_call 18; refine (H18.out _).mono ?_; rintro e wa ⟨rfl, hb⟩; (first | (have HDD := step1 HD HE hb) | (have HDD := stepD HD HE hb)); have HD := HDD.1; have HE := HDD.2; clear HDD hb) | (go_at_call 19; refine (H19.out _).mono ?_; rintro e wa ⟨rfl, hb⟩; (first | (have HDD := step1 HD HE hb) | (have HDD := stepD HD HE hb)); have HD := HDD.1; have HE := HDD.2; clear HDD hb)))
              go_wp2
              go_roundw
              case rel => first | exact ⟨i + 1 + 1, by omega, by go_num, Lib.hid (HB5.out.trans (HD.out.mono HB5.out.size))⟩ | exact ⟨i + 1 + 1, by omega, by go_num, Lib.hid (HB5.out.trans (HD.out.mono HB5.out.size)).drew⟩
              case measure => simp [intOf]; omega
    · have hlt : j < m := by omega
      have hjn : j < n := by omega
      have hj8 : (j : Int) < 8 := by omega
      obtain ⟨b, off, rfl, hcap, hbl, hcl⟩ := HX.out.at (by omega)
      have c0 := cell_later (HB1.out.trans (hB.out.mono HB1.out.size)) (hcl j hjn)
      have hz := HSZ.out j
      obtain ⟨ao3, cap3, w3, hrun, hown, hb3⟩ := push_string (W := wr.drew) hO.out.drew (by omega) hB.out.size (cutS (l.getD j ⟨#[]⟩) 70)
      rw [← cutL_succ] at hown
      revert c0 hz hrun
      generalize l.getD j ⟨#[]⟩ = s
      intro c0 hz hrun
      have hcut := cutS_eq s
      obtain ⟨s2, hs2⟩ : ∃ s2, s2 = cutS s 70 := ⟨_, rfl⟩
      rw [← hs2] at hcut hrun
      have hrun2 : Sem.run Try.prog (appS 37 #[.slice ao2 j cap2, .slice (some ⟨wr.heap.size, 0, none⟩) 1 1]) ((wr.alloc (.cells #[.string s2] 9)).drew) = .ok (.slice ao3 (j + 1) cap3) w3 := hrun
      have HO3 := Lib.hid hown
      have HB3 : Hid (Below w1.heap.size w1 w3) := Lib.hid (hB.out.drew.trans hb3)
      clear hrun hown hb3 hs2 hcl hbl
      go_wp2
      go_region
      go_wp2
      go_roundw
      case rel => exact ⟨j + 1, ao3, cap3, by omega, by go_num, rfl, HO3, HB3⟩
      case measure => simp [intOf]; omega

end Go.Proofs.Ytafdjohgoopcmaa
