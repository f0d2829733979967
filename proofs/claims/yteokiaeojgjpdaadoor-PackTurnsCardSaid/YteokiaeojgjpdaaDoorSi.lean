/- The document's own Split: splitL. -/
import Derived.Test.YteokiaeojgjpdaaDoorSf
import Derived.Test.YteokiaeojgjpdaaDoorSf0
import Derived.Test.YteokiaeojgjpdaaDoorSg
import Derived.IntWalk
namespace Go.Proofs.YteokiaeojgjpdaaDoor
open Go.RowKit

theorem le4_inj {a b : Nat} (ha : a < 4294967296) (hb : b < 4294967296) (h : le4 a = le4 b) : a = b := by
  have h1 := le4_word ha []
  have h2 := le4_word hb []
  rw [h, h2] at h1
  exact h1.symm
theorem drewN_below_at {B : Nat} (w : World) (n : Nat) (h : B ≤ w.heap.size) : Below B w (w.drewN n) := (drewN_below w n).mono h
set_option maxHeartbeats 2000000 in
set_option maxRecDepth 100000 in
theorem rsplit_no {w : World} {A : Option Addr} {m c n : Nat} {bs : List UInt8} {r : Option (List UInt8 × Nat)} (hb0 : BytesAt w A m bs) (hm : m ≤ 1000000000) (h8m : 8 ≤ m) (hn : n = wordL bs) (hbad : 1073741824 < n ∨ m < n + 8) (hr : r = none) :
    Calls Tryd.prog 14 #[.slice A m c] w (SplitPost w r) := by
  obtain ⟨b, o, rfl, _, _⟩ := hb0.2 (by omega)
  have hb := hb0
  clear hb0
  have hbl := hb.1
  have h8' : ¬ (m : Int) < 8 := by omega
  have i0 : (0 : Int) < m := by omega
  have i1 : (1 : Int) < m := by omega
  have i2 : (2 : Int) < m := by omega
  have i3 : (3 : Int) < m := by omega
  obtain ⟨z0, hz0⟩ : ∃ z, bs[0]? = some z := ⟨bs[0]'(by omega), List.getElem?_eq_getElem _⟩
  obtain ⟨z1, hz1⟩ : ∃ z, bs[1]? = some z := ⟨bs[1]'(by omega), List.getElem?_eq_getElem _⟩
  obtain ⟨z2, hz2⟩ : ∃ z, bs[2]? = some z := ⟨bs[2]'(by omega), List.getElem?_eq_getElem _⟩
  obtain ⟨z3, hz3⟩ : ∃ z, bs[3]? = some z := ⟨bs[3]'(by omega), List.getElem?_eq_getElem _⟩
  have hnz : n = z0.toNat + 256 * z1.toNat + 65536 * z2.toNat + 16777216 * z3.toNat := by
    rw [hn]
    match bs, hz0, hz1, hz2, hz3 with
    | a :: b :: c :: d :: r, h0, h1, h2, h3 =>
      obtain rfl := Option.some.inj h0
      obtain rfl := Option.some.inj h1
      obtain rfl := Option.some.inj h2
      obtain rfl := Option.some.inj h3
      rfl
  obtain ⟨b', o', e', hbw, hcells⟩ := hb.2 (by omega)
  injection e' with e'
  injection e' with e1' e2' _
  subst e1' e2'
  have y0 : w.cell? ⟨b, o, none⟩ = some (.int .u8 (z0.toNat : Nat)) := hcells 0 z0 hz0
  have y1 : w.cell? ⟨b, o + 1, none⟩ = some (.int .u8 (z1.toNat : Nat)) := hcells 1 z1 hz1
  have y2 : w.cell? ⟨b, o + 2, none⟩ = some (.int .u8 (z2.toNat : Nat)) := hcells 2 z2 hz2
  have y3 : w.cell? ⟨b, o + 3, none⟩ = some (.int .u8 (z3.toNat : Nat)) := hcells 3 z3 hz3
  have b0 := UInt8.toNat_lt z0
  have b1 := UInt8.toNat_lt z1
  have b2 := UInt8.toNat_lt z2
  have b3 := UInt8.toNat_lt z3
  have HC := Lib.hid hcells
  have HR := Lib.hid hr
  have HB := Lib.hid hb
  generalize z0.toNat = n0 at *
  generalize z1.toNat = n1 at *
  generalize z2.toNat = n2 at *
  generalize z3.toNat = n3 at *
  have hnI := Lib.hid (show (n0 : Int) + 256 * (n1 : Int) + 65536 * (n2 : Int) + 16777216 * (n3 : Int) = (n : Int) by omega)
  clear hcells hr hb hz0 hz1 hz2 hz3 hn hnz
  go_enter Tryd.func14, Tryd.ntmps14
  go_wp2_with fail
  go_quiet (fail)
  rw [hnI.out]
  by_cases hbig : 1073741824 < n
  · have hbig' : (1073741824 : Int) < (n : Int) := by omega
    go_wp2
    go_ret3
    exact SplitPost.no HR.out rfl (drewN_below _ _)
  · have hbig' : ¬ (1073741824 : Int) < (n : Int) := by omega
    have hlen' : (m : Int) - 8 < (n : Int) := by omega
    go_wp2
    go_ret3
    exact SplitPost.no HR.out rfl (drewN_below _ _)
set_option maxHeartbeats 2000000 in
set_option maxRecDepth 100000 in
theorem rsplit_far {w : World} {b o : Nat} {m c n sp : Nat} {bs pl : List UInt8} {r : Option (List UInt8 × Nat)} (hb : BytesAt w (some ⟨b, o, none⟩) m bs) (hmc : m ≤ c) (hm : m ≤ 1000000000) (hn : n = wordL bs) (hn1 : n ≤ 1073741824) (hn2 : n + 8 ≤ m) (hc8 : c ≠ 8) (hsp : sp < 4294967296)
    (Y8 : ∀ (w1 : World), Below w.heap.size w w1 → BytesAt w1 (some ⟨b, o + 8, none⟩) n pl)
    (CS0 : ∀ (w1 : World), Below w.heap.size w w1 → ∀ cc : Nat, Calls Tryd.prog 11 #[.slice (some ⟨b, o + 8, none⟩) n cc] w1 fun e w' => e = .returned (.int .u32 (sp : Nat)) ∧ w1 = w')
    (hpl : pl.length = n) (hr : r = if sp = wordL (bs.drop 4) then some (pl, n + 8) else none) :
    Calls Tryd.prog 14 #[.slice (some ⟨b, o, none⟩) m c] w (SplitPost w r) := by
  have hbl := hb.1
  have h8' : ¬ (m : Int) < 8 := by omega
  have e1 : (8 : Int) + (n : Int) ≤ (c : Int) := by omega
  have e2 : (8 : Int) ≤ (8 : Int) + (n : Int) := by omega
  have hbig' : ¬ (1073741824 : Int) < (n : Int) := by omega
  have hlen' : ¬ (m : Int) - 8 < (n : Int) := by omega
  have i0 : (0 : Int) < m := by omega
  have i1 : (1 : Int) < m := by omega
  have i2 : (2 : Int) < m := by omega
  have i3 : (3 : Int) < m := by omega
  obtain ⟨z0, hz0⟩ : ∃ z, bs[0]? = some z := ⟨bs[0]'(by omega), List.getElem?_eq_getElem _⟩
  obtain ⟨z1, hz1⟩ : ∃ z, bs[1]? = some z := ⟨bs[1]'(by omega), List.getElem?_eq_getElem _⟩
  obtain ⟨z2, hz2⟩ : ∃ z, bs[2]? = some z := ⟨bs[2]'(by omega), List.getElem?_eq_getElem _⟩
  obtain ⟨z3, hz3⟩ : ∃ z, bs[3]? = some z := ⟨bs[3]'(by omega), List.getElem?_eq_getElem _⟩
  have hnz : n = z0.toNat + 256 * z1.toNat + 65536 * z2.toNat + 16777216 * z3.toNat := by
    rw [hn]
    match bs, hz0, hz1, hz2, hz3 with
    | a :: b :: c :: d :: r, h0, h1, h2, h3 =>
      obtain rfl := Option.some.inj h0
      obtain rfl := Option.some.inj h1
      obtain rfl := Option.some.inj h2
      obtain rfl := Option.some.inj h3
      rfl
  obtain ⟨b', o', e', hbw, hcells⟩ := hb.2 (by omega)
  injection e' with e'
  injection e' with e1' e2' _
  subst e1' e2'
  have y0 : w.cell? ⟨b, o, none⟩ = some (.int .u8 (z0.toNat : Nat)) := hcells 0 z0 hz0
  have y1 : w.cell? ⟨b, o + 1, none⟩ = some (.int .u8 (z1.toNat : Nat)) := hcells 1 z1 hz1
  have y2 : w.cell? ⟨b, o + 2, none⟩ = some (.int .u8 (z2.toNat : Nat)) := hcells 2 z2 hz2
  have y3 : w.cell? ⟨b, o + 3, none⟩ = some (.int .u8 (z3.toNat : Nat)) := hcells 3 z3 hz3
  have b0 := UInt8.toNat_lt z0
  have b1 := UInt8.toNat_lt z1
  have b2 := UInt8.toNat_lt z2
  have b3 := UInt8.toNat_lt z3
  have HC := Lib.hid hcells
  have HR := Lib.hid hr
  have HP := Lib.hid hpl
  have HB := Lib.hid hb
  have HS := Lib.hid CS0
  have HY := Lib.hid Y8
  generalize z0.toNat = n0 at *
  generalize z1.toNat = n1 at *
  generalize z2.toNat = n2 at *
  generalize z3.toNat = n3 at *
  have hnI := Lib.hid (show (n0 : Int) + 256 * (n1 : Int) + 65536 * (n2 : Int) + 16777216 * (n3 : Int) = (n : Int) by omega)
  clear hcells hr hpl hb CS0 Y8 hz0 hz1 hz2 hz3 hn hnz
  go_enter Tryd.func14, Tryd.ntmps14
  go_wp2_with fail
  go_quiet (fail)
  rw [hnI.out]
  have HW := Lib.hid (drewN_below w nq)
  generalize w.drewN nq = w1 at HW ⊢
  clear y0 y1 y2 y3
  go_wp2_with fail
  refine (HS.out w1 HW.out _).mono ?_
  rintro e w2 ⟨rfl, rfl⟩
  have CF := Lib.hid (four_any w1 sp hsp)
  go_wp2_with fail
  refine CF.out.mono ?_
  rintro e w3 ⟨A1, c1, rfl, yF, bF⟩
  have YF := Lib.hid yF
  have HW3 := Lib.hid (HW.out.trans (bF.mono HW.out.size))
  clear yF bF CF HS
  go_wp2_with fail
  go_loopw [8] (fun i wr => ∃ j : Nat, j ≤ 4 ∧ i = .int .i64 (j : Nat) ∧ (le4 sp).take j = (bs.drop 4).take j ∧ Below w3.heap.size w3 wr) (fun i _ => 4 - (intOf i).toNat)
  case atStart => exact ⟨0, Nat.zero_le _, rfl, rfl, Below.refl _ _⟩
  case round =>
    obtain ⟨j, hj, rfl, hq, hbel⟩ := hrel
    have HQ := Lib.hid hq
    have HL := Lib.hid hbel
    clear hq hbel
    by_cases hlt : j < 4
    · have hlt' : (j : Int) < 4 := by omega
      obtain ⟨bF, oF, rfl, hbF, hcF⟩ := YF.out.2 (by decide)
      obtain ⟨z, hz⟩ : ∃ z, (le4 sp)[j]? = some z := ⟨(le4 sp)[j]'(by show j < 4; exact hlt), List.getElem?_eq_getElem _⟩
      obtain ⟨y, hy⟩ : ∃ y, bs[4 + j]? = some y := ⟨bs[4 + j]'(by omega), List.getElem?_eq_getElem _⟩
      have y1 : wr.cell? ⟨bF, oF + j, none⟩ = some (.int .u8 (z.toNat : Nat)) := by rw [HL.out.cell (p := ⟨bF, oF + j, none⟩) hbF]; exact hcF j z hz
      have y2 : wr.cell? ⟨b, o + (4 + j), none⟩ = some (.int .u8 (y.toNat : Nat)) := by
        rw [(HW3.out.trans (HL.out.mono HW3.out.size)).cell (p := ⟨b, o + (4 + j), none⟩) hbw]; exact HC.out (4 + j) y hy
      have hyd : (bs.drop 4)[j]? = some y := by rw [List.getElem?_drop]; exact hy
      have HZ := Lib.hid hz
      have HY2 := Lib.hid hyd
      have s1 : IntKind.i64.wrap (4 + (j : Int)) = 4 + (j : Int) := IntWalk.i64_in _ (by omega)
      have s2 : (4 + (j : Int)).toNat = 4 + j := by omega
      have s3 : (0 : Int) ≤ 4 + (j : Int) := by omega
      have s4 : 4 + (j : Int) < (m : Int) := by omega
      clear hz hy hyd hcF
      by_cases hzy : z = y
      · subst hzy
        have HT := Lib.hid (show (le4 sp).take (j + 1) = (bs.drop 4).take (j + 1) by rw [List.take_add_one, List.take_add_one, HZ.out, HY2.out, HQ.out])
        clear HZ HY2 HQ
        go_wp2
        go_quiet (fail)
        clear s1 s2 s3 s4
        go_wp2
        go_roundw
        case rel => exact ⟨j + 1, by omega, by go_num, HT.out, ⟨HL.out.os, HL.out.tape, HL.out.output, HL.out.size, HL.out.block⟩⟩
        case measure => simp [intOf]; omega
      · have hne : ¬ (z.toNat : Int) = (y.toNat : Int) := fun e => hzy (UInt8.toNat_inj.1 (by omega))
        have hdr : 4 ≤ (bs.drop 4).length := by rw [List.length_drop]; omega
        have HN := Lib.hid (show r = none by
          rw [HR.out, if_neg]
          intro e
          have h4 := four_of hdr
          rw [← e] at h4
          have : ((bs.drop 4).take 4)[j]? = some z := by rw [h4]; exact HZ.out
          rw [List.getElem?_take_of_lt hlt, HY2.out] at this
          exact hzy (Option.some.inj this).symm)
        clear HZ HY2 HQ hdr
        go_wp2
        go_quiet (fail)
        clear s1 s2 s3 s4
        go_wp2
        go_ret3
        exact SplitPost.no HN.out rfl ((HW3.out.trans (HL.out.mono HW3.out.size)).trans (drewN_below_at _ _ (Nat.le_trans HW3.out.size HL.out.size)))
    · obtain rfl : j = 4 := by omega
      have hlt' : ¬ ((4 : Nat) : Int) < 4 := by omega
      have hdr : 4 ≤ (bs.drop 4).length := by rw [List.length_drop]; omega
      have HY2 := Lib.hid (show r = some (pl, n + 8) by
        rw [HR.out, if_pos]
        refine le4_inj hsp (wordL_lt _) ?_
        rw [← four_of hdr, ← HQ.out]
        exact (List.take_of_length_le (by show 4 ≤ 4; decide)).symm)
      have HB2 := Lib.hid (HW3.out.trans (HL.out.mono HW3.out.size))
      clear hdr HQ
      go_wp2
      go_ret3
      have HY3 := HY.out _ HB2.out
      rw [← HP.out] at HY3
      exact SplitPost.yes (c := c - 8) HY2.out (by rw [HP.out]; simp; omega) HY3 HB2.out
set_option maxHeartbeats 2000000 in
set_option maxRecDepth 100000 in
theorem rsplit_near {w : World} {b o : Nat} {m c n sp : Nat} {bs pl : List UInt8} {r : Option (List UInt8 × Nat)} (hb : BytesAt w (some ⟨b, o, none⟩) m bs) (hmc : m ≤ c) (hm : m ≤ 1000000000) (hn : n = wordL bs) (hn1 : n ≤ 1073741824) (hn2 : n + 8 ≤ m) (hc8 : c = 8) (hsp : sp < 4294967296)
    (Y8 : ∀ (w1 : World), Below w.heap.size w w1 → BytesAt w1 (some ⟨b, o, none⟩) n pl)
    (CS0 : ∀ (w1 : World), Below w.heap.size w w1 → ∀ cc : Nat, Calls Tryd.prog 11 #[.slice (some ⟨b, o, none⟩) n cc] w1 fun e w' => e = .returned (.int .u32 (sp : Nat)) ∧ w1 = w')
    (hpl : pl.length = n) (hr : r = if sp = wordL (bs.drop 4) then some (pl, n + 8) else none) :
    Calls Tryd.prog 14 #[.slice (some ⟨b, o, none⟩) m c] w (SplitPost w r) := by
  have hbl := hb.1
  have h8' : ¬ (m : Int) < 8 := by omega
  have e1 : (8 : Int) + (n : Int) ≤ (c : Int) := by omega
  have e2 : (8 : Int) ≤ (8 : Int) + (n : Int) := by omega
  have hbig' : ¬ (1073741824 : Int) < (n : Int) := by omega
  have hlen' : ¬ (m : Int) - 8 < (n : Int) := by omega
  have i0 : (0 : Int) < m := by omega
  have i1 : (1 : Int) < m := by omega
  have i2 : (2 : Int) < m := by omega
  have i3 : (3 : Int) < m := by omega
  obtain ⟨z0, hz0⟩ : ∃ z, bs[0]? = some z := ⟨bs[0]'(by omega), List.getElem?_eq_getElem _⟩
  obtain ⟨z1, hz1⟩ : ∃ z, bs[1]? = some z := ⟨bs[1]'(by omega), List.getElem?_eq_getElem _⟩
  obtain ⟨z2, hz2⟩ : ∃ z, bs[2]? = some z := ⟨bs[2]'(by omega), List.getElem?_eq_getElem _⟩
  obtain ⟨z3, hz3⟩ : ∃ z, bs[3]? = some z := ⟨bs[3]'(by omega), List.getElem?_eq_getElem _⟩
  have hnz : n = z0.toNat + 256 * z1.toNat + 65536 * z2.toNat + 16777216 * z3.toNat := by
    rw [hn]
    match bs, hz0, hz1, hz2, hz3 with
    | a :: b :: c :: d :: r, h0, h1, h2, h3 =>
      obtain rfl := Option.some.inj h0
      obtain rfl := Option.some.inj h1
      obtain rfl := Option.some.inj h2
      obtain rfl := Option.some.inj h3
      rfl
  obtain ⟨b', o', e', hbw, hcells⟩ := hb.2 (by omega)
  injection e' with e'
  injection e' with e1' e2' _
  subst e1' e2'
  have y0 : w.cell? ⟨b, o, none⟩ = some (.int .u8 (z0.toNat : Nat)) := hcells 0 z0 hz0
  have y1 : w.cell? ⟨b, o + 1, none⟩ = some (.int .u8 (z1.toNat : Nat)) := hcells 1 z1 hz1
  have y2 : w.cell? ⟨b, o + 2, none⟩ = some (.int .u8 (z2.toNat : Nat)) := hcells 2 z2 hz2
  have y3 : w.cell? ⟨b, o + 3, none⟩ = some (.int .u8 (z3.toNat : Nat)) := hcells 3 z3 hz3
  have b0 := UInt8.toNat_lt z0
  have b1 := UInt8.toNat_lt z1
  have b2 := UInt8.toNat_lt z2
  have b3 := UInt8.toNat_lt z3
  have HC := Lib.hid hcells
  have HR := Lib.hid hr
  have HP := Lib.hid hpl
  have HB := Lib.hid hb
  have HS := Lib.hid CS0
  have HY := Lib.hid Y8
  generalize z0.toNat = n0 at *
  generalize z1.toNat = n1 at *
  generalize z2.toNat = n2 at *
  generalize z3.toNat = n3 at *
  have hnI := Lib.hid (show (n0 : Int) + 256 * (n1 : Int) + 65536 * (n2 : Int) + 16777216 * (n3 : Int) = (n : Int) by omega)
  clear hcells hr hpl hb CS0 Y8 hz0 hz1 hz2 hz3 hn hnz
  subst hc8
  go_enter Tryd.func14, Tryd.ntmps14
  go_wp2_with fail
  go_quiet (fail)
  rw [hnI.out]
  have HW := Lib.hid (drewN_below w nq)
  generalize w.drewN nq = w1 at HW ⊢
  clear y0 y1 y2 y3
  go_wp2_with fail
  refine (HS.out w1 HW.out _).mono ?_
  rintro e w2 ⟨rfl, rfl⟩
  have CF := Lib.hid (four_any w1 sp hsp)
  go_wp2_with fail
  refine CF.out.mono ?_
  rintro e w3 ⟨A1, c1, rfl, yF, bF⟩
  have YF := Lib.hid yF
  have HW3 := Lib.hid (HW.out.trans (bF.mono HW.out.size))
  clear yF bF CF HS
  go_wp2_with fail
  go_loopw [8] (fun i wr => ∃ j : Nat, j ≤ 4 ∧ i = .int .i64 (j : Nat) ∧ (le4 sp).take j = (bs.drop 4).take j ∧ Below w3.heap.size w3 wr) (fun i _ => 4 - (intOf i).toNat)
  case atStart => exact ⟨0, Nat.zero_le _, rfl, rfl, Below.refl _ _⟩
  case round =>
    obtain ⟨j, hj, rfl, hq, hbel⟩ := hrel
    have HQ := Lib.hid hq
    have HL := Lib.hid hbel
    clear hq hbel
    by_cases hlt : j < 4
    · have hlt' : (j : Int) < 4 := by omega
      obtain ⟨bF, oF, rfl, hbF, hcF⟩ := YF.out.2 (by decide)
      obtain ⟨z, hz⟩ : ∃ z, (le4 sp)[j]? = some z := ⟨(le4 sp)[j]'(by show j < 4; exact hlt), List.getElem?_eq_getElem _⟩
      obtain ⟨y, hy⟩ : ∃ y, bs[4 + j]? = some y := ⟨bs[4 + j]'(by omega), List.getElem?_eq_getElem _⟩
      have y1 : wr.cell? ⟨bF, oF + j, none⟩ = some (.int .u8 (z.toNat : Nat)) := by rw [HL.out.cell (p := ⟨bF, oF + j, none⟩) hbF]; exact hcF j z hz
      have y2 : wr.cell? ⟨b, o + (4 + j), none⟩ = some (.int .u8 (y.toNat : Nat)) := by
        rw [(HW3.out.trans (HL.out.mono HW3.out.size)).cell (p := ⟨b, o + (4 + j), none⟩) hbw]; exact HC.out (4 + j) y hy
      have hyd : (bs.drop 4)[j]? = some y := by rw [List.getElem?_drop]; exact hy
      have HZ := Lib.hid hz
      have HY2 := Lib.hid hyd
      have s1 : IntKind.i64.wrap (4 + (j : Int)) = 4 + (j : Int) := IntWalk.i64_in _ (by omega)
      have s2 : (4 + (j : Int)).toNat = 4 + j := by omega
      have s3 : (0 : Int) ≤ 4 + (j : Int) := by omega
      have s4 : 4 + (j : Int) < (m : Int) := by omega
      clear hz hy hyd hcF
      by_cases hzy : z = y
      · subst hzy
        have HT := Lib.hid (show (le4 sp).take (j + 1) = (bs.drop 4).take (j + 1) by rw [List.take_add_one, List.take_add_one, HZ.out, HY2.out, HQ.out])
        clear HZ HY2 HQ
        go_wp2
        go_quiet (fail)
        clear s1 s2 s3 s4
        go_wp2
        go_roundw
        case rel => exact ⟨j + 1, by omega, by go_num, HT.out, ⟨HL.out.os, HL.out.tape, HL.out.output, HL.out.size, HL.out.block⟩⟩
        case measure => simp [intOf]; omega
      · have hne : ¬ (z.toNat : Int) = (y.toNat : Int) := fun e => hzy (UInt8.toNat_inj.1 (by omega))
        have hdr : 4 ≤ (bs.drop 4).length := by rw [List.length_drop]; omega
        have HN := Lib.hid (show r = none by
          rw [HR.out, if_neg]
          intro e
          have h4 := four_of hdr
          rw [← e] at h4
          have : ((bs.drop 4).take 4)[j]? = some z := by rw [h4]; exact HZ.out
          rw [List.getElem?_take_of_lt hlt, HY2.out] at this
          exact hzy (Option.some.inj this).symm)
        clear HZ HY2 HQ hdr
        go_wp2
        go_quiet (fail)
        clear s1 s2 s3 s4
        go_wp2
        go_ret3
        exact SplitPost.no HN.out rfl ((HW3.out.trans (HL.out.mono HW3.out.size)).trans (drewN_below_at _ _ (Nat.le_trans HW3.out.size HL.out.size)))
    · obtain rfl : j = 4 := by omega
      have hlt' : ¬ ((4 : Nat) : Int) < 4 := by omega
      have hdr : 4 ≤ (bs.drop 4).length := by rw [List.length_drop]; omega
      have HY2 := Lib.hid (show r = some (pl, n + 8) by
        rw [HR.out, if_pos]
        refine le4_inj hsp (wordL_lt _) ?_
        rw [← four_of hdr, ← HQ.out]
        exact (List.take_of_length_le (by show 4 ≤ 4; decide)).symm)
      have HB2 := Lib.hid (HW3.out.trans (HL.out.mono HW3.out.size))
      clear hdr HQ
      go_wp2
      go_ret3
      have HY3 := HY.out _ HB2.out
      rw [← HP.out] at HY3
      exact SplitPost.yes (c := 0) HY2.out (by rw [HP.out]; simp; omega) HY3 HB2.out
set_option maxHeartbeats 2000000 in
set_option maxRecDepth 100000 in
theorem rsplit_any {w : World} {A : Option Addr} {m c : Nat} {bs : List UInt8} (hb : BytesAt w A m bs) (hmc : m ≤ c) (hm : m ≤ 1000000000) :
    Calls Tryd.prog 14 #[.slice A m c] w (SplitPost w (splitL bs)) := by
  have hbl := hb.1
  by_cases h8 : m < 8
  · have h8' : (m : Int) < 8 := by omega
    have hs : splitL bs = none := by unfold splitL; rw [if_pos (by omega)]
    rw [hs]
    clear hs
    go_enter Tryd.func14, Tryd.ntmps14
    go_wp2
    go_ret3
    exact ⟨rfl, Below.refl _ _⟩
  · have hwl := wordL_lt bs
    obtain ⟨n, hn⟩ : ∃ n, n = wordL bs := ⟨_, rfl⟩
    rw [← hn] at hwl
    have hs : splitL bs = if 1073741824 < n ∨ bs.length < n + 8 then none else if sumL ((bs.drop 8).take n) = wordL (bs.drop 4) then some ((bs.drop 8).take n, n + 8) else none := by
      unfold splitL; rw [if_neg (by omega), ← hn]
    by_cases hbig : 1073741824 < n ∨ m < n + 8
    · rw [if_pos (by omega)] at hs
      exact rsplit_no hb hm (by omega) hn hbig hs
    · obtain ⟨b, o, rfl, hbw, _⟩ := hb.2 (by omega)
      rw [if_neg (by omega)] at hs
      have hpn : ((bs.drop 8).take n).length = n := by rw [List.length_take, List.length_drop]; omega
      have Y8 := fun (w1 : World) (h : Below w.heap.size w w1) => ((hb.below h).from (k := 8) (c := c) (by omega) hmc).cut (k := n) (by omega)
      rcases (by omega : c = 8 ∨ c ≠ 8) with hc8 | hc8
      · rw [if_pos hc8] at Y8
        exact rsplit_near hb hmc hm hn (by omega) (by omega) hc8 (sumL_lt _) Y8 (fun w1 h cc => refSum_any (Y8 w1 h) (by unfold maxLen; omega)) hpn hs
      · rw [if_neg hc8] at Y8
        exact rsplit_far hb hmc hm hn (by omega) (by omega) hc8 (sumL_lt _) Y8 (fun w1 h cc => refSum_any (Y8 w1 h) (by unfold maxLen; omega)) hpn hs
end Go.Proofs.YteokiaeojgjpdaaDoor
