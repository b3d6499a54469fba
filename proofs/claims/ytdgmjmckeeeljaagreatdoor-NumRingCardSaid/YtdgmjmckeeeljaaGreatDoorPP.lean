/- Contract of num.Text, for a right Num. Premise: the table uint64pow10 is laid in the world. -/
import Derived.Test.YtdgmjmckeeeljaaGreatDoorOO
namespace Go.Proofs.YtdgmjmckeeeljaaGreatDoor
open Go.RowKit Go.Shelf
attribute [local go_sem] Oper.semAt_some

theorem pad_len : ∀ k g, (pad k g).length = k
  | 0, _ => rfl
  | k + 1, g => by simp [pad, pad_len k]

theorem dec_len9 {g : Nat} (h : g < 1000000000) : (Lib.decDigits g).length ≤ 9 := by
  have := congrArg List.length (pad_fill 8 g (by simpa using h))
  rw [List.length_append, pad_len] at this
  omega

theorem rep_len (k : Nat) (b : UInt8) : (Lib.repeatL [b] k).length = k := by
  induction k with
  | zero => rfl
  | succ k ih => rw [repeatL_snoc, List.length_append, ih]; rfl

theorem grpText_len : ∀ L : List Nat, (∀ d ∈ L, d < 1000000000) → (grpText L).length ≤ 9 * L.length
  | [], _ => by simp [grpText]
  | [g], h => by
    have := dec_len9 (h g (by simp))
    simpa [grpText] using this
  | g :: a :: r, h => by
    have h1 := grpText_len (a :: r) (fun d hd => h d (List.mem_cons_of_mem _ hd))
    have h2 := dec_len9 (h g (by simp))
    show (grpText (a :: r) ++ (Lib.repeatL [48] (9 - (Lib.decDigits g).length) ++ Lib.decDigits g)).length ≤ _
    rw [List.length_append, List.length_append, rep_len]
    simp only [List.length_cons] at h1 ⊢
    omega

/-- What holds when k groups are written. -/
structure TxJ (w : World) (b g g' : Nat) (ao : Option Addr) (cap : Nat) (L : List Nat) (pre : List UInt8) (k : Nat) (W : World) : Prop where
  c : W.heap[g]? = some (.cells #[.slice ao L.length cap] 25 (0, 0))
  c' : W.heap[g']? = some (.cells #[.slice ao L.length cap] 25 (0, 0))
  sl : Sl W (.slice ao L.length cap) L
  ty : Ty59 W ao
  bd : Lib.IsBuilder 73 5 w.heap.size b (chars (pre ++ grpText (L.drop (L.length - k)))) W
  bl : Below w.heap.size w W

theorem Sl.row59 {W W' : World} {ao : Option Addr} {n cap : Nat} {L : List Nat} (h : Sl W (.slice ao n cap) L) (ht : Ty59 W ao) (hk : ∀ (g : Nat) (o : Obj), W.heap[g]? = some o → (∃ cs f, o = .cells cs 59 f) → W'.heap[g]? = some o) : Sl W' (.slice ao n cap) L ∧ Ty59 W' ao := by
  refine ⟨⟨h.bd, h.len, ?_⟩, fun bb off e => ?_⟩
  · rcases h.is with h1 | ⟨bb, off, cap', hv, hc, hcl⟩
    · exact .inl h1
    · refine .inr ⟨bb, off, cap', hv, hc, fun j hj => ?_⟩
      cases hv
      obtain ⟨cs, f, ho⟩ := ht bb off rfl
      rw [← hcl j hj]
      exact World.cell?_of_block (a := ⟨bb, off + j, none⟩) ((hk _ _ ho ⟨_, _, rfl⟩).trans ho.symm)
  · obtain ⟨cs, f, ho⟩ := ht bb off e
    exact ⟨cs, f, hk _ _ ho ⟨_, _, rfl⟩⟩

theorem txJ_kept {w W W' : World} {b g g' : Nat} {ao : Option Addr} {cap : Nat} {L : List Nat} {pre : List UInt8} {k : Nat} (h : TxJ w b g g' ao cap L pre k W) (hk : ∀ (g : Nat) (o : Obj), W.heap[g]? = some o → o.isCells = true → W'.heap[g]? = some o) (hb : Below w.heap.size w W') : TxJ w b g g' ao cap L pre k W' := by
  obtain ⟨h1, h2⟩ := h.sl.row59 h.ty (W' := W') (fun g o ho hx => by obtain ⟨cs, f, rfl⟩ := hx; exact hk g _ ho rfl)
  exact ⟨hk _ _ h.c rfl, hk _ _ h.c' rfl, h1, h2, isBuilder_kept h.bd hk, hb⟩

theorem txJ_own {w : World} {b g g' : Nat} {ao : Option Addr} {cap : Nat} {L : List Nat} {pre : List UInt8} {B : Nat} (hB : w.heap.size ≤ B) : OwnFrom B (TxJ w b g g' ao cap L pre) := by
  intro k W W' row hs hg hr
  refine txJ_kept hs (fun q o hq hc => ?_) (hs.bl.grown hg hs.bl.size (fun r e => Nat.le_trans hB (hr r e).1))
  refine (hg.block q (Array.getElem?_eq_some_iff.1 hq).1 fun e => ?_).trans hq
  obtain ⟨_, o', ho', hc'⟩ := hr q e.symm
  rw [hq] at ho'
  cases ho'
  rw [hc] at hc'
  cases hc'

/-- The builder's own block is a builder's. -/
theorem builder_ty {B b : Nat} {bs : List Value} {W : World} (h : Lib.IsBuilder 73 5 B b bs W) : ∃ cs, W.heap[b]? = some (.cells cs 73 (0, 0)) := by
  rcases h with ⟨_, v, hb, _⟩ | ⟨_, v, hb, _⟩
  · exact ⟨_, hb⟩
  · exact ⟨_, hb⟩

/-- A round: what is not the builder's is as it was. -/
theorem txJ_step {w W W' : World} {b g g' : Nat} {ao : Option Addr} {cap : Nat} {L : List Nat} {pre : List UInt8} {k : Nat} (h : TxJ w b g g' ao cap L pre k W) (hk : KeptT b W W') (hb : Below w.heap.size W W')
    (hd : Lib.IsBuilder 73 5 w.heap.size b (chars (pre ++ grpText (L.drop (L.length - (k + 1))))) W') : TxJ w b g g' ao cap L pre (k + 1) W' := by
  obtain ⟨cs0, hb0⟩ := builder_ty h.bd
  have hne : ∀ q cs t f, W.heap[q]? = some (.cells cs t f) → t ≠ 73 → q ≠ b := fun q cs t f hq ht e => by
    subst e
    rw [hb0] at hq
    cases hq
    exact ht rfl
  obtain ⟨h1, h2⟩ := h.sl.row59 h.ty (W' := W') (fun q o ho hx => by
    obtain ⟨cs, f, rfl⟩ := hx
    exact hk q _ ho (fun cs f e => by cases e) (hne q _ _ _ ho (by decide)))
  exact ⟨hk _ _ h.c (fun cs f e => by cases e) (hne _ _ _ _ h.c (by decide)), hk _ _ h.c' (fun cs f e => by cases e) (hne _ _ _ _ h.c' (by decide)), h1, h2, hd, h.bl.trans hb⟩

theorem keeps_of_keptT {B b : Nat} {W W' : World} {cs0 : Array Value} (hb0 : W.heap[b]? = some (.cells cs0 73 (0, 0))) (hk : KeptT b W W') (hs : W.heap.size ≤ W'.heap.size) : KeepsFrom B W W' :=
  ⟨hs, fun q o _ hq hc => hk q o hq (fun cs f e => by subst e; cases hc) (fun e => by subst e; rw [hb0] at hq; cases hq; cases hc)⟩

/-- A fresh builder. -/
theorem builder_fresh (w W : World) (h : w.heap.size ≤ W.heap.size) : Lib.IsBuilder 73 5 w.heap.size W.heap.size (chars []) (W.alloc (.cells #[.pointer none, .slice none 0 0] 73)) :=
  .inl ⟨h, .slice none 0 0, heap_alloc_new _ _, ⟨rfl, .inl ⟨rfl, rfl⟩⟩, by simp [Value.ownBlock]⟩

/-- The text of a number. -/
def txt (a : Int) : List UInt8 := (if a < 0 then [45] else []) ++ Lib.decDigits a.natAbs

end Go.Proofs.YtdgmjmckeeeljaaGreatDoor
