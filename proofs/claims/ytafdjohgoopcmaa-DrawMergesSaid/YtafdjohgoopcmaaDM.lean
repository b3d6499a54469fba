/- What is digested: two numbers that are carried over the bytes; their eight bytes. -/
namespace Go.Proofs.Ytafdjohgoopcmaa

def px : Nat := 2147483629
def py : Nat := 2147483587

/-- A byte more. -/
def stepX (x : Nat) (c : UInt8) : Nat := (48271 * x + c.toNat + 1) % 2147483629
def stepY (y : Nat) (c : UInt8) : Nat := (69621 * y + c.toNat + 1) % 2147483587

def runX (x : Nat) (bs : List UInt8) : Nat := bs.foldl stepX x
def runY (y : Nat) (bs : List UInt8) : Nat := bs.foldl stepY y

theorem runX_lt {x : Nat} (h : x < 2147483629) (bs : List UInt8) : runX x bs < 2147483629 := by
  induction bs generalizing x with
  | nil => exact h
  | cons b r ih => exact ih (Nat.mod_lt _ (by omega))

theorem runY_lt {y : Nat} (h : y < 2147483587) (bs : List UInt8) : runY y bs < 2147483587 := by
  induction bs generalizing y with
  | nil => exact h
  | cons b r ih => exact ih (Nat.mod_lt _ (by omega))

theorem runX_append (x : Nat) (a b : List UInt8) : runX x (a ++ b) = runX (runX x a) b := by simp [runX]
theorem runY_append (y : Nat) (a b : List UInt8) : runY y (a ++ b) = runY (runY y a) b := by simp [runY]

/-- The four bytes of a number, the highest first. -/
def be4 (n : Nat) : List UInt8 := [UInt8.ofNat (n / 16777216), UInt8.ofNat (n / 65536), UInt8.ofNat (n / 256), UInt8.ofNat n]
/-- The lowest first. -/
def le4 (n : Nat) : List UInt8 := [UInt8.ofNat n, UInt8.ofNat (n / 256), UInt8.ofNat (n / 65536), UInt8.ofNat (n / 16777216)]

/-- The digest. -/
def dig (bs : List UInt8) : List UInt8 := be4 (runX 17 bs) ++ be4 (runY 29 bs)

theorem dig_len (bs : List UInt8) : (dig bs).length = 8 := rfl

theorem be4_inj {a b : Nat} (ha : a < 4294967296) (hb : b < 4294967296) (h : be4 a = be4 b) : a = b := by
  simp only [be4, List.cons.injEq, and_true] at h
  obtain ⟨h1, h2, h3, h4⟩ := h
  have e1 := congrArg UInt8.toNat h1
  have e2 := congrArg UInt8.toNat h2
  have e3 := congrArg UInt8.toNat h3
  have e4 := congrArg UInt8.toNat h4
  simp only [UInt8.toNat_ofNat'] at e1 e2 e3 e4
  omega

theorem dig_inj {a b : List UInt8} (h : dig a = dig b) : runX 17 a = runX 17 b ∧ runY 29 a = runY 29 b := by
  have hx := be4_inj (by have := runX_lt (x := 17) (by omega) a; omega) (by have := runX_lt (x := 17) (by omega) b; omega) (List.append_inj_left h rfl)
  have hy := be4_inj (by have := runY_lt (y := 29) (by omega) a; omega) (by have := runY_lt (y := 29) (by omega) b; omega) (List.append_inj_right h rfl)
  exact ⟨hx, hy⟩

/-- A step does not merge two numbers: 48271 has an inverse. -/
theorem stepX_inj {a b : Nat} {c : UInt8} (ha : a < 2147483629) (hb : b < 2147483629) (h : stepX a c = stepX b c) : a = b := by
  unfold stepX at h
  have e : ∀ z : Nat, z < 2147483629 → (275025249 * ((48271 * z + c.toNat + 1) % 2147483629) + 275025249 * (2147483629 - (c.toNat + 1))) % 2147483629 = z := by
    intro z hz
    have hc := c.toNat_lt
    omega
  rw [← e a ha, ← e b hb, h]

theorem runX_inj {a b : Nat} (bs : List UInt8) (ha : a < 2147483629) (hb : b < 2147483629) (h : runX a bs = runX b bs) : a = b := by
  induction bs generalizing a b with
  | nil => exact h
  | cons c r ih => exact stepX_inj ha hb (ih (Nat.mod_lt _ (by omega)) (Nat.mod_lt _ (by omega)) h)

theorem stepX_ne {a : Nat} {c d : UInt8} (h : stepX a c = stepX a d) : c = d := by
  unfold stepX at h
  have hc := c.toNat_lt
  have hd := d.toNat_lt
  apply UInt8.toNat_inj.1
  omega

/-- Strings that differ in one byte have different digests. -/
theorem dig_differ (a r : List UInt8) (c d : UInt8) (h : c ≠ d) : dig (a ++ c :: r) ≠ dig (a ++ d :: r) := by
  intro e
  have hx := (dig_inj e).1
  rw [runX_append, runX_append] at hx
  have h1 := runX_lt (x := 17) (by omega) a
  exact h (stepX_ne (runX_inj (a := stepX (runX 17 a) c) (b := stepX (runX 17 a) d) r (Nat.mod_lt _ (by omega)) (Nat.mod_lt _ (by omega)) hx))

end Go.Proofs.Ytafdjohgoopcmaa
