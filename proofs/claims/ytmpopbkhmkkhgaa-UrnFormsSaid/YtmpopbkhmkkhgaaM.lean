/- Contracts of the reference: Made, Row. Condition: the slices read as ints. -/
import Derived.Laws.Bits128
import Derived.Test.YtmpopbkhmkkhgaaL
namespace Go.Proofs.Ytmpopbkhmkkhgaa
open Go.RowKit

theorem and1023 (n : Int) : bits .and .i64 n 1023 = n % 1024 := by
  have h127 : (BitVec.ofInt 64 1023).toNat = 2 ^ 10 - 1 := by decide
  have key : (BitVec.ofInt 64 n &&& BitVec.ofInt 64 1023).toNat = (n % ((2 ^ 64 : Nat) : Int)).toNat % 2 ^ 10 := by
    rw [BitVec.toNat_and, BitVec.toNat_ofInt, h127, Nat.and_two_pow_sub_one_eq_mod]
  show IntKind.i64.wrap ((BitVec.ofInt 64 n &&& BitVec.ofInt 64 1023).toNat : Nat) = n % 1024
  rw [key, IntKind.wrap_i64]
  omega
theorem and1 (n : Int) : bits .and .i64 n 1 = n % 2 := by
  have h127 : (BitVec.ofInt 64 1).toNat = 2 ^ 1 - 1 := by decide
  have key : (BitVec.ofInt 64 n &&& BitVec.ofInt 64 1).toNat = (n % ((2 ^ 64 : Nat) : Int)).toNat % 2 ^ 1 := by
    rw [BitVec.toNat_and, BitVec.toNat_ofInt, h127, Nat.and_two_pow_sub_one_eq_mod]
  show IntKind.i64.wrap ((BitVec.ofInt 64 n &&& BitVec.ofInt 64 1).toNat : Nat) = n % 2
  rw [key, IntKind.wrap_i64]
  omega

/-- What a made arm has. -/
def armV (ls : List Int) (k : Nat) : Int := if k < 2 then 1 + ls.getD (2 + k) 0 % 4 % 3 else ls.getD (2 + k) 0 % 4
def armL (ls : List Int) (k : Nat) : List Int := (List.range k).map (armV ls)
theorem armL_succ (ls : List Int) (k : Nat) : armL ls (k + 1) = armL ls k ++ [armV ls k] := by simp [armL, List.range_succ]
theorem armV_in (ls : List Int) (k : Nat) : 0 ≤ armV ls k ∧ armV ls k ≤ 3 ∧ (k < 2 → 1 ≤ armV ls k) := by
  unfold armV
  split <;> omega
theorem armL_get {ls : List Int} {n k : Nat} (h : k < n) : (armL ls n).getD k 0 = armV ls k := by simp [armL, List.getD, h]

/-- What is known of a made design. -/
structure MadeOk (r : List Int) (a : Int) : Prop where
  l2 : 2 ≤ r.length
  l4 : r.length ≤ 4
  a0 : 0 ≤ a ∧ a ≤ 3
  rr : ∀ k, k < r.length → 0 ≤ r.getD k 0 ∧ r.getD k 0 ≤ 3
  r2 : 1 ≤ r.getD 0 0 ∧ 1 ≤ r.getD 1 0

/-- What lies in memory while a design is made. -/
structure MdI (W wr : World) (cs : Array Value) (vR : Value) (n : Nat) (a : Int) (R : List Int) : Prop where
  b : wr.heap[W.heap.size]? = some (.cells cs 22 (0, 0))
  res : DBox wr (W.heap.size + 1) 0 (.slice none 0 0) 0
  d : DBox wr (W.heap.size + 2) 3 vR a
  o : OwI wr (W.heap.size + 3) vR n R
  bl : Below W.heap.size W wr
  lt : W.heap.size + 3 ≤ wr.heap.size

theorem MdI.step {W wr : World} {cs : Array Value} {vR : Value} {n : Nat} {a : Int} {R : List Int} (h : MdI W wr cs vR n a R) (hn : n ≤ 100) (x : Int) :
    ∃ g cap w2, Sem.run Try.prog (appI 23 #[vR, .slice (some ⟨wr.heap.size, 0, none⟩) 1 1]) (wr.alloc (.cells #[.int .i64 x] 3)) = .ok (.slice (some ⟨g, 0, none⟩) (n + 1) cap) w2 ∧ w2.cell? ⟨W.heap.size + 2, 1, none⟩ = some vR ∧ w2.frozen? ⟨W.heap.size + 2, 1, none⟩ = false ∧ MdI W (w2.setCell ⟨W.heap.size + 2, 1, none⟩ (.slice (some ⟨g, 0, none⟩) (n + 1) cap)) cs (.slice (some ⟨g, 0, none⟩) (n + 1) cap) (n + 1) a (R ++ [x]) := by
  have hlt := h.lt
  obtain ⟨g, cap, w2, hrun, hown, hb, hgr, hg, hgl⟩ := push_int h.o (by omega) hlt x
  have hkeep : ∀ k, k < W.heap.size + 3 → w2.heap[k]? = wr.heap[k]? := fun k hk => by
    rw [grown_block hgr (by rw [World.size_alloc]; omega) (fun e => by have := (own_lt h.o e).1; omega)]
    exact Below.heap_alloc wr _ k (by omega)
  have hgB := (own_lt hown (g := g) rfl).1
  have hd := (hkeep _ (by omega)).trans h.d
  have hsz := hb.size
  refine ⟨g, cap, w2, hrun, DBox.cells hd |>.2.1, frozen_of_row _ _ _ _ _ hd, ⟨?_, ?_, heap_setCell_same _ _ _ _ _ _ hd, ?_, ?_, ?_⟩⟩
  · rw [Below.heap_setCell _ _ _ _ (by simp only; omega)]; exact (hkeep _ (by omega)).trans h.b
  · rw [DBox, Below.heap_setCell _ _ _ _ (by simp only; omega)]; exact (hkeep _ (by omega)).trans h.res
  · exact owns_same hown fun k hk => Below.heap_setCell _ _ _ _ (by
      have e : g = k := by simpa [Value.ownBlock] using hk
      simp only; omega)
  · exact (h.bl.trans (hb.mono (by omega))).setCell (by simp only; omega) _
  · simp only [World.setCell, Array.size_modify]; omega

/-- A design that is the one result. -/
theorem results_cell27 {fn : Func} {t g : Nat} {tmps : Array Value} {w : World} {a b c d e f : Value} (h : fn.results = #[.cell t 27]) (hp : tmps.getD t undef = .pointer (some ⟨g, 0, none⟩)) (hg : w.heap[g]? = some (.cells #[a, b, c, d, e, f] 27 (0, 0))) :
    (results fn tmps).run Try.prog w = .ok (.agg #[a, b, c, d, e, f]) w := by
  have h1 := run_loadVar_row (P := Try.prog) w g 27 27 #[a, b, c, d, e, f] (0, 0) _ hg Try.underlying27 rfl (by kernel_rfl)
  have hp' : tmps[t]?.getD undef = .pointer (some ⟨g, 0, none⟩) := by simpa [Array.getD_eq_getD_getElem?] using hp
  simp [results, h, hp', h1, asAddr]

/-- The world when the making begins. -/
abbrev mdW (W : World) (cs : Array Value) (a : Int) : World := ((W.alloc (.cells cs 22)).alloc (.cells #[.int .i64 0, .slice none 0 0, .slice none 0 0, .int .i64 0, .int .i64 0, .int .i64 0] 27)).alloc (.cells #[.int .i64 3, .slice none 0 0, .slice none 0 0, .int .i64 a, .int .i64 0, .int .i64 0] 27)

theorem md_start (W : World) (cs : Array Value) (a : Int) : MdI W (mdW W cs a) cs (.slice none 0 0) 0 a [] := by
  have e : ∀ k, (mdW W cs a).heap[k]? = if k = W.heap.size + 2 then some (.cells #[.int .i64 3, .slice none 0 0, .slice none 0 0, .int .i64 a, .int .i64 0, .int .i64 0] 27) else if k = W.heap.size + 1 then some (.cells #[.int .i64 0, .slice none 0 0, .slice none 0 0, .int .i64 0, .int .i64 0, .int .i64 0] 27) else if k = W.heap.size then some (.cells cs 22) else W.heap[k]? := fun k => by
    simp only [mdW, World.alloc, Array.getElem?_push, Array.size_push]
  refine ⟨?_, ?_, ?_, World.ownsRow_nil _ _ _ _, ?_, by simp⟩
  · rw [e, if_neg (by omega), if_neg (by omega), if_pos rfl]
  · rw [DBox, e, if_neg (by omega), if_pos rfl]
  · rw [DBox, e, if_pos rfl]
  · exact (((Below.refl _ W).alloc (Nat.le_refl _) _).alloc (by simp) _).alloc (by simp; omega) _

/-- What lies in memory when the design is handed on. -/
theorem MdI.final {W wr : World} {cs : Array Value} {vR : Value} {n : Nat} {a : Int} {R : List Int} (h : MdI W wr cs vR n a R) {Wf : World}
    (hf : Wf = (((((wr.setCell ⟨W.heap.size + 1, 0, none⟩ (.int .i64 3)).setCell ⟨W.heap.size + 1, 1, none⟩ vR).setCell ⟨W.heap.size + 1, 2, none⟩ (.slice none 0 0)).setCell ⟨W.heap.size + 1, 3, none⟩ (.int .i64 a)).setCell ⟨W.heap.size + 1, 4, none⟩ (.int .i64 0)).setCell ⟨W.heap.size + 1, 5, none⟩ (.int .i64 0)) :
    DBox Wf (W.heap.size + 1) 3 vR a ∧ OwI Wf W.heap.size vR n R ∧ Below W.heap.size W Wf := by
  have k1 := heap_setCell_same _ (W.heap.size + 1) 0 _ 27 (.int .i64 3) h.res
  have k2 := heap_setCell_same _ (W.heap.size + 1) 1 _ 27 vR k1
  have k3 := heap_setCell_same _ (W.heap.size + 1) 2 _ 27 (.slice none 0 0) k2
  have k4 := heap_setCell_same _ (W.heap.size + 1) 3 _ 27 (.int .i64 a) k3
  have k5 := heap_setCell_same _ (W.heap.size + 1) 4 _ 27 (.int .i64 0) k4
  have k6 := heap_setCell_same _ (W.heap.size + 1) 5 _ 27 (.int .i64 0) k5
  rw [← hf] at k6
  have hk : ∀ k, k ≠ W.heap.size + 1 → Wf.heap[k]? = wr.heap[k]? := fun k hk => by
    rw [hf]
    repeat rw [Below.heap_setCell _ _ _ _ (by simpa using hk)]
  refine ⟨k6, owns_mono (owns_same h.o fun k hq => hk k (by have := (own_lt h.o hq).1; omega)) (by omega), ?_⟩
  rw [hf]
  exact (((((h.bl.setCell (by simp) _).setCell (by simp) _).setCell (by simp) _).setCell (by simp) _).setCell (by simp) _).setCell (by simp) _

attribute [local go_sem ↓] appI_rw

set_option maxRecDepth 10000 in
set_option maxHeartbeats 8000000 in
theorem made_any {W : World} (l0 l1 l2 l3 l4 l5 : Int) :
    Calls Try.prog 10 #[.agg #[.int .i64 l0, .int .i64 l1, .int .i64 l2, .int .i64 l3, .int .i64 l4, .int .i64 l5]] W fun e w' => ∃ ar nr cr r a, e = .returned (DV 3 (.slice ar nr cr) a) ∧ OwI w' W.heap.size (.slice ar nr cr) nr r ∧ MadeOk r a ∧ Below W.heap.size W w' := by
  obtain ⟨N, hN, hN2, hN4⟩ : ∃ N : Nat, (N : Int) = 2 + l0 % 1024 % 3 ∧ 2 ≤ N ∧ N ≤ 4 := ⟨(2 + l0 % 1024 % 3).toNat, by omega, by omega, by omega⟩
  have hm0 : (l0 % 1024).tmod 3 = l0 % 1024 % 3 := Int.tmod_eq_emod_of_nonneg (by omega)
  have hm1 : (l1 % 1024).tmod 4 = l1 % 1024 % 4 := Int.tmod_eq_emod_of_nonneg (by omega)
  have hw0 : IntKind.i64.wrap (2 + l0 % 1024 % 3) = (N : Int) := by rw [← hN]; exact IntWalk.i64_in _ (by omega)
  have ha0 := and1023 l0
  have ha1 := and1023 l1
  obtain ⟨a, ha⟩ : ∃ a, a = l1 % 1024 % 4 := ⟨_, rfl⟩
  have hab : 0 ≤ a ∧ a ≤ 3 := by omega
  obtain ⟨cs, hcs⟩ : ∃ cs : Array Value, cs = #[.int .i64 l0, .int .i64 l1, .int .i64 l2, .int .i64 l3, .int .i64 l4, .int .i64 l5] := ⟨_, rfl⟩
  have HS := Lib.hid (md_start W cs a)
  have HGET : Hid (∀ wr vR n R, MdI W wr cs vR n a R → ∀ j, j < 6 → wr.cell? ⟨W.heap.size, j, none⟩ = some (.int .i64 ([l0, l1, l2, l3, l4, l5].getD j 0))) := Lib.hid (fun wr vR n R h j hj => by
    rw [cell_of_row _ _ _ _ _ _ h.b, hcs]
    rcases (show j = 0 ∨ j = 1 ∨ j = 2 ∨ j = 3 ∨ j = 4 ∨ j = 5 by omega) with rfl | rfl | rfl | rfl | rfl | rfl <;> rfl)
  have HOK : Hid (MadeOk (armL [l0, l1, l2, l3, l4, l5] N) a) := Lib.hid ⟨by simp [armL]; omega, by simp [armL]; omega, hab, fun k hk => by
    have hk' : k < N := by simpa [armL] using hk
    rw [armL_get hk']
    have := armV_in [l0, l1, l2, l3, l4, l5] k
    exact ⟨this.1, this.2.1⟩, by
    rw [armL_get (by omega), armL_get (by omega)]
    exact ⟨(armV_in _ 0).2.2 (by omega), (armV_in _ 1).2.2 (by omega)⟩⟩
  rw [hcs] at HS
  rw [← ha] at hm1
  have HM0 := Lib.hid hm0
  clear hN ha hab HM0
  obtain ⟨ls, hls⟩ : ∃ ls, ls = [l0, l1, l2, l3, l4, l5] := ⟨_, rfl⟩
  rw [← hls] at HGET HOK
  rw [hcs] at HGET
  clear hls hcs
  go_enter Try.func10, Try.ntmps10
  go_wp2
  go_loopw [5, 6] (fun kv _ wr => ∃ (k : Nat) (vR : Value), k ≤ N ∧ kv = .int .i64 (k : Nat) ∧ Hid (MdI W wr #[.int .i64 l0, .int .i64 l1, .int .i64 l2, .int .i64 l3, .int .i64 l4, .int .i64 l5] vR k a (armL ls k))) (fun kv _ _ => N - (intOf kv).toNat)
  case atStart => exact ⟨0, _, by omega, rfl, HS⟩
  case round =>
    obtain ⟨k, vR, hk, rfl, hI⟩ := hrel
    obtain ⟨d0, d1, d2, d3, d4, d5⟩ := hI.out.d.cells
    by_cases hkm : k = N
    · have HI := Lib.hid hI.out
      obtain ⟨aR, cR, hvR⟩ := slice_of_owns hI.out.o
      subst hvR
      have HFI := Lib.hid (HI.out.final rfl)
      obtain ⟨r0, r1, r2, r3, r4, r5⟩ := HI.out.res.cells
      have fr := fun j => frozen_of_row _ _ j _ _ HI.out.res
      have f0 := fr 0
      have f1 := fr 1
      have f2 := fr 2
      have f3 := fr 3
      have f4 := fr 4
      have f5 := fr 5
      subst hkm
      clear fr hI
      go_wp2
      exact bodyPost_ret (results_cell27 (t := 2) rfl rfl HFI.out.1) rfl ⟨_, _, _, _, _, rfl, HFI.out.2.1, HOK.out, HFI.out.2.2⟩
    · have hlt : k < N := by omega
      have hc := HGET.out wr vR k _ hI.out (2 + k) (by omega)
      have hw2 : IntKind.i64.wrap (2 + (k : Int)) = (2 + k : Nat) := by rw [IntWalk.i64_in _ (by omega)]; omega
      obtain ⟨x, hx⟩ : ∃ x, x = ls.getD (2 + k) 0 := ⟨_, rfl⟩
      have hax := and1023 x
      have hmx : (x % 1024).tmod 4 = x % 4 := (Int.tmod_eq_emod_of_nonneg (by omega)).trans (by omega)
      by_cases hk2 : k < 2
      · obtain ⟨g, cap, w2, hrun, hcc, hff, hI2⟩ := hI.out.step (by omega) (1 + x % 4 % 3)
        have e : armL ls k ++ [1 + x % 4 % 3] = armL ls (k + 1) := by rw [armL_succ, armV, if_pos hk2, hx]
        rw [e] at hI2
        have HI2 := Lib.hid hI2
        rw [← hx] at hc
        have hmy : (x % 4).tmod 3 = x % 4 % 3 := Int.tmod_eq_emod_of_nonneg (by omega)
        have hwy : IntKind.i64.wrap (1 + x % 4 % 3) = 1 + x % 4 % 3 := IntWalk.i64_in _ (by omega)
        have hki : (k : Int) < 2 := by omega
        have hk6 : (2 : Int) + (k : Int) < 6 := by omega
        clear hx hI hI2 e
        go_wp2
        go_roundw
        case rel => exact ⟨k + 1, _, by omega, by go_num, HI2⟩
        case measure => simp [intOf]; omega
      · obtain ⟨g, cap, w2, hrun, hcc, hff, hI2⟩ := hI.out.step (by omega) (x % 4)
        have e : armL ls k ++ [x % 4] = armL ls (k + 1) := by rw [armL_succ, armV, if_neg hk2, hx]
        rw [e] at hI2
        have HI2 := Lib.hid hI2
        rw [← hx] at hc
        have hki : ¬ (k : Int) < 2 := by omega
        have hk6 : (2 : Int) + (k : Int) < 6 := by omega
        clear hx hI hI2 e
        go_wp2
        go_roundw
        case rel => exact ⟨k + 1, _, by omega, by go_num, HI2⟩
        case measure => simp [intOf]; omega

end Go.Proofs.Ytmpopbkhmkkhgaa
