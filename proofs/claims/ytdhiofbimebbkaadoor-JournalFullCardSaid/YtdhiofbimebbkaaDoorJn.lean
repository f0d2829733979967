/- Put in one contract; a disk that has the journal's file alone. -/
import Derived.Test.YtdhiofbimebbkaaDoorJm
namespace Go.Proofs.YtdhiofbimebbkaaDoor
open Go.RowKit Go.Maps Go.Sort
section
variable {w0 w w' w1 : World} {dp jp jm : Nat} {nm : ByteArray} {X Y : Nat → Prop} {s s' : Sta} {L : List Ent}
theorem jb_put {A : Option Addr} {m c k : Nat} {data : List UInt8} (h : JB w0 w dp jp jm nm X Y s L) (ok : Ok s) (hb : BytesAt w A m data) (hk : k ≤ 1099511627776) (hm : m ≤ 90000000) (hn : nm.size ≤ maxLen) (ht : TabAt w0) (hF : (fileL (itms L)).length ≤ 1000000000) :
    Calls Tryd.prog 9 #[.pointer (some ⟨jp, 0, none⟩), .int .i64 (k : Nat), .slice A m c] w (JRes w0 dp jp jm nm (putS nm.data.toList k data (s, itms L))) := by
  cases hh : hasE L (k : Nat) with
  | false => exact put_new h ok hb hk hm hn (ht.below h.old) (by have := fileL_len (itms L); rw [itms_len] at this; unfold maxLen; omega) hF hh
  | true =>
    refine (put_twice h.jat hk hm hh).mono ?_
    rintro e w' ⟨rfl, rfl⟩
    have : putS nm.data.toList k data (s, itms L) = (5, s, itms L) := by unfold putS; rw [if_pos (by rw [← hasE_hasK, hh])]
    rw [this]
    exact ⟨rfl, X, Y, L, h, rfl⟩
end
def jn : ByteArray := ⟨#[106]⟩
/-- The disk with the journal's file alone. -/
def sJ (b : List UInt8) (sf fr : Nat) : Sta := ⟨[([106], b, sf)], fr, 0, false⟩
theorem sJ_ok {b : List UInt8} {sf fr : Nat} (hb : b.length ≤ 100000000) (hf : fr ≤ 100000000) : Ok (sJ b sf fr) := by
  have e : tot (sJ b sf fr).V = b.length := by simp [sJ, tot]
  refine ⟨by simp [sJ], by rw [e]; omega, ?_, by show 0 ≤ _; omega, fun t ht => ?_⟩
  · rw [e]; show fr + _ ≤ _; omega
  · obtain rfl : t = ([106], b, sf) := by simpa [sJ] using ht
    show 1 ≤ 40; decide
theorem s0_ok {fr : Nat} (hf : fr ≤ 100000000) : Ok ⟨[], fr, 0, false⟩ :=
  ⟨Nat.zero_le _, Nat.zero_le _, by show fr + 0 ≤ _; omega, Nat.zero_le _, fun t ht => by cases ht⟩
theorem sJ_load0 (fr : Nat) : loadS [106] ⟨[], fr, 0, false⟩ = (0, [], sJ [] 0 fr) := rfl
theorem sJ_load (b : List UInt8) (sf fr : Nat) : loadS [106] (sJ b sf fr) = (0, b, sJ b sf fr) := rfl
theorem sJ_sync (b : List UInt8) (sf fr : Nat) : syncS [106] (sJ b sf fr) = (0, sJ b b.length fr) := rfl
theorem sJ_append (b z : List UInt8) (sf fr : Nat) : appendS [106] z (sJ b sf fr) = if fr < z.length then (71, sJ b sf fr) else (0, sJ (b ++ z) sf (fr - z.length)) := rfl
theorem sJ_cut {b : List UInt8} {sf fr n : Nat} (h : n ≤ b.length) : cutS [106] (n : Nat) (sJ b sf fr) = (0, sJ (b.take n) (min sf n) (fr + (b.length - n))) := by
  have e : cutS [106] (n : Nat) (sJ b sf fr) = if (n : Int) < 0 ∨ ((b.length : Nat) : Int) < (n : Int) then (1, sJ b sf fr) else (0, sJ (b.take (n : Int).toNat) (min sf (n : Int).toNat) (fr + (b.length - (n : Int).toNat))) := rfl
  rw [e, if_neg (by omega), Int.toNat_natCast]
theorem sJ_put {b d : List UInt8} {sf fr k : Nat} {its : List Itm} (hk : hasK its k = false) (hf : (recI (k, d)).length ≤ fr) : putS [106] k d (sJ b sf fr, its) = (0, sJ (b ++ recI (k, d)) sf (fr - (recI (k, d)).length), its ++ [(k, d)]) := by
  unfold putS
  rw [sJ_append, if_neg (by simp [hk]), if_neg (by omega)]
  rfl
theorem sJ_twice {b d : List UInt8} {sf fr k : Nat} {its : List Itm} (hk : hasK its k = true) : putS [106] k d (sJ b sf fr, its) = (5, sJ b sf fr, its) := by
  unfold putS
  rw [if_pos (by simpa using hk)]
theorem sJ_full {b d : List UInt8} {sf fr k : Nat} {its : List Itm} (hk : hasK its k = false) (hf : fr < (recI (k, d)).length) : putS [106] k d (sJ b sf fr, its) = (71, sJ b sf fr, its) := by
  unfold putS
  rw [sJ_append, if_neg (by simp [hk]), if_pos hf]
  rfl
theorem sJ_crash {x : List UInt8} {sx fr m : Nat} (k : Int) (hs : sx ≤ x.length) (hm : m = sx + min k.toNat (x.length - sx)) : crashS [k] (sJ x sx fr) = sJ (x.take m) m (fr + (x.length - m)) := by
  have hml : m ≤ x.length := by have := Nat.min_le_right k.toNat (x.length - sx); omega
  have hl : (x.take m).length = m := by rw [List.length_take]; omega
  have e : (crL [k] 0 (sJ x sx fr).V).1 = [([106], x.take m, m)] := by
    show [(cr1 [k] 0 ([106], x, sx)).1] = _
    unfold cr1
    by_cases h : sx = x.length
    · rw [if_pos h]
      obtain rfl : m = x.length := by rw [hm, h, Nat.sub_self, Nat.min_zero]; omega
      rw [List.take_length, h]
    · rw [if_neg h]
      have : crN [k] 0 (([106], x, sx) : List UInt8 × List UInt8 × Nat) = m := by rw [hm]; rfl
      rw [this]
  unfold crashS
  rw [e]
  show (⟨[([106], x.take m, m)], fr + (tot [([106], x, sx)] - tot [([106], x.take m, m)]), 0, false⟩ : Sta) = _
  rw [show tot [(([106], x, sx) : List UInt8 × List UInt8 × Nat)] = x.length by simp [tot], show tot [(([106], x.take m, m) : List UInt8 × List UInt8 × Nat)] = m by simp [tot]; omega]
  rfl
theorem sJ_kept {b : List UInt8} {sf fr n : Nat} (hn : n = (fileL (scanL [] b)).length) (hl : n ≤ b.length) (hs : sf ≤ b.length) : keptS [106] b (sJ b sf fr) = (0, sJ (b.take n) (min sf n) (fr + (b.length - n))) := by
  unfold keptS
  rw [← hn]
  by_cases h : n < b.length
  · rw [if_pos h, sJ_cut hl]
  · rw [if_neg h]
    obtain rfl : n = b.length := by omega
    rw [List.take_length, Nat.min_eq_left hs, Nat.sub_self, Nat.add_zero]
theorem sJ_open {b : List UInt8} {sf fr n : Nat} (hn : n = (fileL (scanL [] b)).length) (hl : n ≤ b.length) (hs : sf ≤ b.length) : openS [106] (sJ b sf fr) = (0, sJ (b.take n) n (fr + (b.length - n)), scanL [] b) := by
  unfold openS
  rw [sJ_load]
  simp only [sJ_kept hn hl hs, sJ_sync]
  rw [if_neg (by decide), if_neg (by decide), List.length_take, Nat.min_eq_left hl]
theorem sJ_open0 (fr : Nat) : openS [106] ⟨[], fr, 0, false⟩ = (0, sJ [] 0 fr, []) := rfl
theorem clean_nil : CleanB [] [] := ⟨trivial, 0, rfl⟩
/-- The first beginning of bytes of good items. -/
theorem clean_fits {its : List Itm} (h : GoodL [] its) {m : Nat} (hm : m ≤ (fileL its).length) : ∃ j, j ≤ its.length ∧ scanL [] ((fileL its).take m) = its.take j ∧ (fileL (its.take j)).length ≤ m ∧ ((fileL its).take m).take (fileL (its.take j)).length = fileL (its.take j) ∧ (∀ i, i ≤ its.length → (fileL (its.take i)).length ≤ m → i ≤ j) := by
  obtain ⟨j, h1, h2, h3, h4⟩ := scan_take its [] m h
  rw [List.nil_append] at h2
  refine ⟨j, h1, h2, h4, ?_, h3⟩
  rw [List.take_take, Nat.min_eq_left h4]
  conv => lhs; rw [← List.take_append_drop j its, fileL_app]
  rw [List.take_append_drop]
  rw [List.take_left' rfl]
section
variable {w0 w w' w1 : World} {dp jp jm : Nat} {X Y : Nat → Prop} {s s' : Sta} {L : List Ent}
/-- Open on a disk with the journal's file alone. -/
theorem open_sJ {its : List Itm} {b : List UInt8} {sf fr n : Nat} (h : DB w0 w dp X (sJ b sf fr)) (hb : b.length ≤ 100000000) (hf : fr + b.length ≤ 100000000) (hs : sf ≤ b.length) (ht : TabAt w0) (hC : CleanB its b) (hil : its.length ≤ 100000000) (hn : n = (fileL (scanL [] b)).length) (hl : n ≤ b.length) :
    Calls Tryd.prog 8 #[.pointer (some ⟨dp, 0, none⟩), .string jn] w fun e w' => ∃ jp jm X Y L, e = .returned (.tuple #[.pointer (some ⟨jp, 0, none⟩), .int .i64 0]) ∧ JB w0 w' dp jp jm jn X Y (sJ (b.take n) n (fr + (b.length - n))) L ∧ itms L = scanL [] b := by
  have h1 := open_any (nm := jn) (its := its) h (sJ_ok hb (by omega)) (by show Ok (loadS [106] _).2.2; rw [sJ_load]; exact sJ_ok hb (by omega)) (by show Ok (keptS [106] (loadS [106] _).2.1 (loadS [106] _).2.2).2; rw [sJ_load, sJ_kept hn hl hs]; exact sJ_ok (by rw [List.length_take]; omega) (by omega)) (by decide) ht (by show CleanB its (loadS [106] _).2.1; rw [sJ_load]; exact hC) hil (by show (loadS [106] _).2.1.length ≤ _; rw [sJ_load]; simp only; omega)
  rw [show jn.data.toList = [106] from rfl, sJ_open hn hl hs] at h1
  refine h1.mono ?_
  intro e w' hp
  unfold OpenPost at hp
  rw [if_pos rfl] at hp
  exact hp
theorem open_s0 {fr : Nat} (h : DB w0 w dp X ⟨[], fr, 0, false⟩) (hf : fr ≤ 100000000) (ht : TabAt w0) :
    Calls Tryd.prog 8 #[.pointer (some ⟨dp, 0, none⟩), .string jn] w fun e w' => ∃ jp jm X Y L, e = .returned (.tuple #[.pointer (some ⟨jp, 0, none⟩), .int .i64 0]) ∧ JB w0 w' dp jp jm jn X Y (sJ [] 0 fr) L ∧ itms L = [] := by
  have h1 := open_any (nm := jn) (its := []) h (s0_ok hf) (by show Ok (loadS [106] _).2.2; rw [sJ_load0]; exact sJ_ok (by decide) hf) (by show Ok (keptS [106] (loadS [106] _).2.1 (loadS [106] _).2.2).2; rw [sJ_load0]; exact sJ_ok (by decide) hf) (by decide) ht (by show CleanB [] (loadS [106] _).2.1; rw [sJ_load0]; exact clean_nil) (by decide) (by show (loadS [106] _).2.1.length ≤ _; rw [sJ_load0]; exact Nat.zero_le _)
  rw [show jn.data.toList = [106] from rfl, sJ_open0] at h1
  refine h1.mono ?_
  intro e w' hp
  unfold OpenPost at hp
  rw [if_pos rfl] at hp
  exact hp
end
end Go.Proofs.YtdhiofbimebbkaaDoor
