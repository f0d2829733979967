/- The sum of bytes, bit by bit and by fours; records: in plain words. -/
namespace Go.Proofs.YtdhiofbimebbkaaDoor

def poly : BitVec 32 := 0xedb88320#32
def tabL : List Nat := [0x00000000, 0x1db71064, 0x3b6e20c8, 0x26d930ac, 0x76dc4190, 0x6b6b51f4, 0x4db26158, 0x5005713c, 0xedb88320, 0xf00f9344, 0xd6d6a3e8, 0xcb61b38c, 0x9b64c2b0, 0x86d3d2d4, 0xa00ae278, 0xbdbdf21c]
def tb (n : Nat) : BitVec 32 := BitVec.ofNat 32 (tabL.getD n 0)
def crT (x : BitVec 32) : BitVec 32 := (x >>> 1) ^^^ (if x.getLsbD 0 then poly else 0#32)
def nib (x : BitVec 32) : BitVec 32 := (x >>> 4) ^^^ tb (x.toNat % 16)
def crcI (s : BitVec 32) (c : UInt8) : BitVec 32 := nib (nib (s ^^^ BitVec.ofNat 32 c.toNat))
def stp (s : BitVec 32) (b : Bool) : BitVec 32 := if (s.getLsbD 0 != b) = true then (s >>> 1) ^^^ poly else s >>> 1
def crcR (s : BitVec 32) (c : UInt8) : Nat → BitVec 32
  | 0 => s
  | k + 1 => stp (crcR s c k) (c.toNat.testBit k)
theorem crT_bit (x : BitVec 32) (i : Nat) : (crT x).getLsbD i = (x.getLsbD (i + 1) ^^ (x.getLsbD 0 && poly.getLsbD i)) := by
  unfold crT
  rw [BitVec.getLsbD_xor, BitVec.getLsbD_ushiftRight, Nat.add_comm 1 i]
  cases x.getLsbD 0 <;> simp
theorem poly_low : poly.getLsbD 0 = false ∧ poly.getLsbD 1 = false ∧ poly.getLsbD 2 = false := by decide
theorem crT4_bit (x : BitVec 32) (i : Nat) : (crT (crT (crT (crT x)))).getLsbD i = (x.getLsbD (i + 4) ^^ (((x.getLsbD 0 && poly.getLsbD (i + 3)) ^^ (x.getLsbD 1 && poly.getLsbD (i + 2))) ^^ ((x.getLsbD 2 && poly.getLsbD (i + 1)) ^^ (x.getLsbD 3 && poly.getLsbD i)))) := by
  obtain ⟨h0, h1, h2⟩ := poly_low
  have p0 : (crT x).getLsbD 0 = x.getLsbD 1 := by rw [crT_bit, h0]; simp
  have p1 : (crT (crT x)).getLsbD 0 = x.getLsbD 2 := by rw [crT_bit, h0, crT_bit, h1]; simp
  have p2 : (crT (crT (crT x))).getLsbD 0 = x.getLsbD 3 := by rw [crT_bit, h0, crT_bit, h1, crT_bit, h2]; simp
  rw [crT_bit, p2, crT_bit, p1, crT_bit, p0, crT_bit]
  simp only [Nat.add_assoc, Nat.reduceAdd]
  cases x.getLsbD (i + 4) <;> cases (x.getLsbD 0 && poly.getLsbD (i + 3)) <;> cases (x.getLsbD 1 && poly.getLsbD (i + 2)) <;> cases (x.getLsbD 2 && poly.getLsbD (i + 1)) <;> cases (x.getLsbD 3 && poly.getLsbD i) <;> rfl
theorem tb_all : ((List.range 16).all fun n => (List.range 32).all fun i => (tb n).getLsbD i == (((n.testBit 0 && poly.getLsbD (i + 3)) ^^ (n.testBit 1 && poly.getLsbD (i + 2))) ^^ ((n.testBit 2 && poly.getLsbD (i + 1)) ^^ (n.testBit 3 && poly.getLsbD i)))) = true := by decide +kernel
theorem tb_bit {n i : Nat} (hn : n < 16) (hi : i < 32) : (tb n).getLsbD i = (((n.testBit 0 && poly.getLsbD (i + 3)) ^^ (n.testBit 1 && poly.getLsbD (i + 2))) ^^ ((n.testBit 2 && poly.getLsbD (i + 1)) ^^ (n.testBit 3 && poly.getLsbD i))) := by
  have h := List.all_eq_true.1 (List.all_eq_true.1 tb_all n (List.mem_range.2 hn)) i (List.mem_range.2 hi)
  simpa using h
theorem low4 (x : BitVec 32) {j : Nat} (hj : j < 4) : (x.toNat % 16).testBit j = x.getLsbD j := by
  rw [show (16 : Nat) = 2 ^ 4 from rfl, Nat.testBit_mod_two_pow, decide_eq_true hj, Bool.true_and]
  rfl
/-- Four steps at once. -/
theorem nib_eq (x : BitVec 32) : nib x = crT (crT (crT (crT x))) := by
  refine BitVec.eq_of_getLsbD_eq fun i hi => ?_
  rw [crT4_bit]
  unfold nib
  rw [BitVec.getLsbD_xor, BitVec.getLsbD_ushiftRight, tb_bit (Nat.mod_lt _ (by decide)) hi, low4 x (by decide), low4 x (by decide), low4 x (by decide), low4 x (by decide), Nat.add_comm 4 i]
theorem stp_T (s : BitVec 32) (n k : Nat) (hn : n < 256) : stp s (n.testBit k) ^^^ BitVec.ofNat 32 (n >>> (k + 1)) = crT (s ^^^ BitVec.ofNat 32 (n >>> k)) := by
  have hlt : ∀ j, n >>> j < 2 ^ 32 := fun j => by
    rw [Nat.shiftRight_eq_div_pow]
    exact Nat.lt_of_le_of_lt (Nat.div_le_self _ _) (by omega)
  have hb : ∀ j i, (BitVec.ofNat 32 (n >>> j)).getLsbD i = n.testBit (j + i) := fun j i => by
    rw [BitVec.getLsbD_ofNat, Nat.testBit_shiftRight]
    by_cases hi : i < 32
    · simp [hi]
    · simp [hi]
      exact Nat.testBit_lt_two_pow (Nat.lt_of_lt_of_le (show n < 2 ^ 8 from hn) (Nat.pow_le_pow_right (n := 2) (by decide) (show 8 ≤ j + i by omega)))
  have h0 : (s ^^^ BitVec.ofNat 32 (n >>> k)).getLsbD 0 = (s.getLsbD 0 != n.testBit k) := by
    rw [BitVec.getLsbD_xor, hb, Nat.add_zero]
  refine BitVec.eq_of_getLsbD_eq fun i hi => ?_
  rw [crT_bit, h0, BitVec.getLsbD_xor, BitVec.getLsbD_xor, hb, hb]
  unfold stp
  rw [show k + 1 + i = k + (i + 1) by omega]
  cases (s.getLsbD 0 != n.testBit k)
  · rw [if_neg (by simp), BitVec.getLsbD_ushiftRight, Nat.add_comm 1 i]; simp
  · rw [if_pos rfl, BitVec.getLsbD_xor, BitVec.getLsbD_ushiftRight, Nat.add_comm 1 i]
    cases s.getLsbD (i + 1) <;> cases n.testBit (k + (i + 1)) <;> cases poly.getLsbD i <;> rfl
/-- Bit by bit and by fours a byte makes the same. -/
theorem crc_same (s : BitVec 32) (c : UInt8) : crcR s c 8 = crcI s c := by
  have hc : c.toNat < 256 := UInt8.toNat_lt c
  have h : ∀ k, crcR s c k ^^^ BitVec.ofNat 32 (c.toNat >>> k) = Nat.rec (s ^^^ BitVec.ofNat 32 c.toNat) (fun _ x => crT x) k := by
    intro k
    induction k with
    | zero => rfl
    | succ k ih => show stp (crcR s c k) (c.toNat.testBit k) ^^^ _ = crT _; rw [stp_T _ _ _ hc, ih]
  have h8 := h 8
  have h9 : c.toNat >>> 8 = 0 := by rw [Nat.shiftRight_eq_div_pow]; omega
  rw [h9] at h8
  have h10 : crcR s c 8 ^^^ BitVec.ofNat 32 0 = crcR s c 8 := by simp
  rw [h10] at h8
  rw [h8]
  unfold crcI
  rw [nib_eq, nib_eq]
  rfl
/-- The register behind bytes. -/
def regL (bs : List UInt8) : BitVec 32 := bs.foldl crcI (0xffffffff#32)
theorem regL_snoc (bs : List UInt8) (c : UInt8) : regL (bs ++ [c]) = crcI (regL bs) c := by unfold regL; rw [List.foldl_append]; rfl
/-- The sum of bytes. -/
def sumL (bs : List UInt8) : Nat := (~~~ (regL bs)).toNat
theorem sumL_lt (bs : List UInt8) : sumL bs < 4294967296 := (~~~ (regL bs)).isLt
def le4 (n : Nat) : List UInt8 := [UInt8.ofNat (n % 256), UInt8.ofNat (n / 256 % 256), UInt8.ofNat (n / 65536 % 256), UInt8.ofNat (n / 16777216 % 256)]
/-- A payload's record. -/
def recL (p : List UInt8) : List UInt8 := le4 p.length ++ le4 (sumL p) ++ p
def wordL : List UInt8 → Nat
  | a :: b :: c :: d :: _ => a.toNat + 256 * b.toNat + 65536 * c.toNat + 16777216 * d.toNat
  | _ => 0
/-- The payload of the record with which bytes begin, and how many bytes the record has. -/
def splitL (bs : List UInt8) : Option (List UInt8 × Nat) :=
  if bs.length < 8 then none
  else if 1073741824 < wordL bs ∨ bs.length < wordL bs + 8 then none
  else if sumL ((bs.drop 8).take (wordL bs)) = wordL (bs.drop 4) then some ((bs.drop 8).take (wordL bs), wordL bs + 8) else none
theorem le4_word {n : Nat} (h : n < 4294967296) (r : List UInt8) : wordL (le4 n ++ r) = n := by
  show wordL (UInt8.ofNat (n % 256) :: UInt8.ofNat (n / 256 % 256) :: UInt8.ofNat (n / 65536 % 256) :: UInt8.ofNat (n / 16777216 % 256) :: r) = n
  show (UInt8.ofNat (n % 256)).toNat + 256 * (UInt8.ofNat (n / 256 % 256)).toNat + 65536 * (UInt8.ofNat (n / 65536 % 256)).toNat + 16777216 * (UInt8.ofNat (n / 16777216 % 256)).toNat = n
  have hu : ∀ m, m % 256 < 256 := fun m => Nat.mod_lt _ (by decide)
  have e : ∀ m, (UInt8.ofNat (m % 256)).toNat = m % 256 := fun m => by have := hu m; simp
  rw [e, e, e, e]
  omega
theorem wordL_lt (bs : List UInt8) : wordL bs < 4294967296 := by
  unfold wordL
  split
  · rename_i a b c d _
    have := UInt8.toNat_lt a; have := UInt8.toNat_lt b; have := UInt8.toNat_lt c; have := UInt8.toNat_lt d
    omega
  · decide
theorem recL_len (p : List UInt8) : (recL p).length = p.length + 8 := by unfold recL le4; simp
/-- A record is split as its payload, whatever stands behind it. -/
theorem splitL_rec {p : List UInt8} (h : p.length ≤ 1073741824) (r : List UInt8) : splitL (recL p ++ r) = some (p, p.length + 8) := by
  have hl : (recL p ++ r).length = p.length + 8 + r.length := by rw [List.length_append, recL_len]
  have hw : wordL (recL p ++ r) = p.length := by
    unfold recL; rw [List.append_assoc, List.append_assoc]; exact le4_word (by omega) _
  have h4 : (recL p ++ r).drop 4 = le4 (sumL p) ++ (p ++ r) := by unfold recL; rw [List.append_assoc, List.append_assoc]; rfl
  have h8 : (recL p ++ r).drop 8 = p ++ r := by unfold recL; rw [List.append_assoc, List.append_assoc]; rfl
  unfold splitL
  rw [if_neg (by omega), hw, if_neg (by omega), h8, h4, le4_word (sumL_lt p)]
  rw [List.take_left' rfl, if_pos rfl]
/-- A proper beginning of a record is none. -/
theorem splitL_cut {p : List UInt8} (h : p.length ≤ 1073741824) {i : Nat} (hi : i < p.length + 8) : splitL ((recL p).take i) = none := by
  have hl : ((recL p).take i).length = i := by rw [List.length_take, recL_len]; omega
  unfold splitL
  by_cases h8 : i < 8
  · rw [if_pos (by omega)]
  · have hw : wordL ((recL p).take i) = p.length := by
      unfold recL
      rw [List.append_assoc, List.take_append, List.take_of_length_le (by simp [le4]; omega)]
      exact le4_word (by omega) _
    rw [if_neg (by omega), if_pos (by rw [hw, hl]; omega)]
theorem splitL_bd {bs q : List UInt8} {m : Nat} (h : splitL bs = some (q, m)) : q = (bs.drop 8).take (m - 8) ∧ 8 ≤ m ∧ m ≤ bs.length ∧ q.length = m - 8 ∧ m - 8 = wordL bs ∧ sumL q = wordL (bs.drop 4) ∧ m ≤ 1073741832 := by
  unfold splitL at h
  split at h
  · cases h
  · split at h
    · cases h
    · split at h
      · rename_i h1 h2 h3
        simp only [Option.some.injEq, Prod.mk.injEq] at h
        obtain ⟨rfl, rfl⟩ := h
        simp only [not_or] at h2
        refine ⟨by rw [Nat.add_sub_cancel], by omega, by omega, ?_, by omega, h3, by omega⟩
        rw [List.length_take, List.length_drop]; omega
      · cases h
end Go.Proofs.YtdhiofbimebbkaaDoor
