/- The reader of a report: result. -/
import Derived.Test.YtplenagncmhhoaaDoorSmL
namespace Go.Proofs.YtplenagncmhhoaaDoor
open Go.RowKit

set_option maxHeartbeats 2000000 in
/-- A result's line is taken. -/
theorem result_yes_any {w : World} {rp : Nat} {l : Ln} {r : List Ln} {t : Ln} {k : Nat} {n : Ln} {v : Nat} (h : RdS w rp (l :: r) t k) (hf : Fine (l :: r) t k) (hm : MaxAt w) (ht : TabAt w) (hn : resP rdN l = some (n, v)) :
    Calls Tryd.prog 102 #[.pointer (some ⟨rp, 0, none⟩)] w fun e w' => e = .returned (.tuple #[.agg #[.string ⟨n.toArray⟩, .int .i64 (v : Nat)], .bool true]) ∧ RdS w' rp r t (k + 1) ∧ w.grownBy w' (some rp) := by
  rcases res_cases l with ⟨n', h1, h2, h4, h5⟩ | ⟨h1, _⟩
  rotate_left
  · rw [hn] at h1; cases h1
  rw [hn] at h1
  injection h1 with h1
  injection h1 with h1 h1'
  subst h1 h1'
  have hbd := line_bound hf
  have hbl : (nxt (l :: r) t).size = l.length := size_mk l
  have hbl2 : l.length ≤ 4000000000 := by omega
  have HNX := Lib.hid (fun (W : World) (a : RdS W rp (l :: r) t k) (b : MaxAt W) => next_any a hf b)
  obtain ⟨L, hL⟩ : ∃ L : ByteArray, L = nxt (l :: r) t := ⟨_, rfl⟩
  have hLd : L.data.toList = l := by rw [hL]; rfl
  rw [← hL] at HNX hbd
  obtain ⟨m, hmm⟩ := hm.cell
  have HCU := Lib.hid (fun (W : World) (a : MaxAt W) => Tryd.strings_Cut L ⟨#[58, 32]⟩ a.cell.choose W (by omega) a.cell.choose_spec)
  rw [hLd, show (⟨#[58, 32]⟩ : ByteArray).data.toList = [58, 32] from rfl] at HCU
  have hblen := cutB_len l
  have HPA := Lib.hid (fun (W : World) (a : TabAt W) => parse_any a ⟨(cutA l).toArray⟩)
  rw [parse_vp] at HPA
  have h240 : (⟨(cutB l).toArray⟩ : ByteArray).size ≤ 4000000000 := by rw [size_mk]; omega
  have HRD := Lib.hid (fun W => read21 ⟨(cutB l).toArray⟩ W (by unfold maxLen; omega))
  rw [h4, h5] at HRD
  have hv0 : ((vp (cutA l) : Nat) : Int) ≠ 0 := by omega
  generalize ((vp (cutA l) : Nat) : Int) = VI at HPA hv0 ⊢
  have hvb : (VI == 0) = false := beq_eq_false_iff_ne.2 hv0
  clear hv0
  unfold cutA at HPA
  unfold cutB at HRD
  generalize hca : Lib.cut l [58, 32] = C at HCU HPA HRD
  obtain ⟨ca, cb, cf⟩ := C
  simp only at HCU HPA HRD
  generalize (⟨ca.toArray⟩ : ByteArray) = CA at HCU HPA
  generalize (⟨cb.toArray⟩ : ByteArray) = CB at HCU HRD
  have HTK := Lib.hid (fun (W : World) (a : RdS W rp (l :: r) t k) (b : MaxAt W) => take_any a hf b)
  have H := Lib.hid h
  have HM := Lib.hid hm
  have HT := Lib.hid ht
  obtain ⟨NM, hNM⟩ : ∃ NM : ByteArray, NM = ⟨n.toArray⟩ := ⟨_, rfl⟩
  rw [← hNM] at HRD ⊢
  have hlt := h.lt
  have hm1 := hm.lt
  clear hbl2 h hm ht hL hLd h2 h4 h5 hbd hbl hn hNM hblen h240 hf hca hmm
  have hb0 := (Below.refl w.heap.size w).alloc (Nat.le_refl _) (.cells #[.string ⟨#[]⟩, .int .i64 0] 49)
  have H0 := Lib.hid (H.out.below hb0 hlt)
  have HM0 := Lib.hid (HM.out.alloc (.cells #[.string ⟨#[]⟩, .int .i64 0] 49))
  have HB0 := Lib.hid hb0
  have Z0 := Lib.hid (Blk.new w 49 #[.string ⟨#[]⟩, .int .i64 0])
  have HNX0 := Lib.hid (HNX.out _ H0.out HM0.out)
  clear hb0
  go_enter Tryd.func102, Tryd.ntmps102
  go_wp2_with fail
  refine HNX0.out.mono ?_
  rintro e w1 ⟨rfl, n1, rfl⟩
  have HM1 := Lib.hid (HM0.out.drewN n1)
  go_wp2_with fail
  refine (HCU.out _ HM1.out).mono ?_
  rintro e w2 ⟨rfl, n2, rfl⟩
  have HT2 := Lib.hid (TabAt.below (w' := (w.alloc (.cells #[.string ⟨#[]⟩, .int .i64 0] 49)).drewN (n1 + n2)) HT.out ⟨HB0.out.os, HB0.out.tape, HB0.out.output, HB0.out.size, HB0.out.block⟩)
  go_wp2_with fail
  refine (HPA.out _ HT2.out).mono ?_
  rintro e w3 ⟨rfl, rfl⟩
  go_wp2_with fail
  refine (HRD.out _).mono ?_
  rintro e w4 ⟨rfl, b4⟩
  have H4 := Lib.hid ((H0.out.drewN (n1 + n2)).below b4 (by simp; omega))
  have HM4 := Lib.hid ((HM0.out.drewN (n1 + n2)).below b4 (by simp; omega))
  have Z4 := Lib.hid ((Z0.out.drewN (n1 + n2)).below b4 (by simp))
  have HG4 := Lib.hid (gb_trans (gb_trans (gb_below HB0.out (some rp)) (gb_of_drewN _ (n1 + n2) _)) (gb_below b4 (some rp)))
  clear b4
  go_wp2_with fail
  refine (HTK.out _ H4.out HM4.out).mono ?_
  rintro e w5 ⟨rfl, r5, g5⟩
  have HG5 := Lib.hid (gb_trans HG4.out g5)
  have R5 := Lib.hid r5
  have Z5 := Lib.hid (Z4.out.grown g5 (by simp; omega))
  obtain ⟨_, _, z2, z3⟩ := blk2 Z5.out
  have hz5 := Z5.out.lt
  clear r5 g5
  go_wp2
  have Z6 := (Z5.out.set_ 0 (.string NM)).set_ 1 (.int .i64 VI)
  obtain ⟨c0, c1, _, _⟩ := blk2 (a := .string NM) (b := .int .i64 VI) Z6
  exact bodyPost_ret (v := .tuple #[.agg #[.string NM, .int .i64 VI], .bool true]) (by simp [results, Tryd.results102, go_sem, c0, c1]) rfl ⟨rfl, (Blk.far (Blk.far R5.out (p := ⟨w.heap.size, 0, none⟩) (by simp; omega) _) (p := ⟨w.heap.size, 1, none⟩) (by simp; omega) _), gb_set (g := rp) (p := ⟨w.heap.size, 1, none⟩) (gb_set (g := rp) (p := ⟨w.heap.size, 0, none⟩) HG5.out (.inr (Nat.le_refl _)) _) (.inr (Nat.le_refl _)) _⟩
set_option maxHeartbeats 2000000 in
/-- A line that is no result's stays. -/
theorem result_no_any {w : World} {rp : Nat} {ls : List Ln} {t : Ln} {k : Nat} (h : RdS w rp ls t k) (hf : Fine ls t k) (hm : MaxAt w) (ht : TabAt w) (hn : ∀ l, ls.head? = some l → resP rdN l = none) :
    Calls Tryd.prog 102 #[.pointer (some ⟨rp, 0, none⟩)] w fun e w' => e = .returned (.tuple #[.agg #[.string ⟨#[]⟩, .int .i64 0], .bool false]) ∧ RdS w' rp ls t k ∧ w.grownBy w' (some rp) := by
  have hbd := line_bound hf
  obtain ⟨l, hl⟩ : ∃ l, l = ls.headD t := ⟨_, rfl⟩
  have hbl : (nxt ls t).size = l.length := by rw [hl]; exact size_mk _
  have hno : (!ls.isEmpty) = false ∨ vp (cutA l) = 0 ∨ readB ⟨(cutB l).toArray⟩ = false := by
    cases ls with
    | nil => exact .inl rfl
    | cons x r =>
      obtain rfl : l = x := hl
      rcases res_cases l with ⟨n', h1, _⟩ | ⟨_, h2⟩
      · rw [hn l rfl] at h1; cases h1
      · exact .inr h2
  have hbl2 : l.length ≤ 4000000000 := by omega
  have HNX := Lib.hid (fun (W : World) (a : RdS W rp ls t k) (b : MaxAt W) => next_any a hf b)
  obtain ⟨L, hL⟩ : ∃ L : ByteArray, L = nxt ls t := ⟨_, rfl⟩
  have hLd : L.data.toList = l := by rw [hL, hl]; rfl
  rw [← hL] at HNX hbd
  have HCU := Lib.hid (fun (W : World) (a : MaxAt W) => Tryd.strings_Cut L ⟨#[58, 32]⟩ a.cell.choose W (by omega) a.cell.choose_spec)
  rw [hLd, show (⟨#[58, 32]⟩ : ByteArray).data.toList = [58, 32] from rfl] at HCU
  have hblen := cutB_len l
  have HPA := Lib.hid (fun (W : World) (a : TabAt W) => parse_any a ⟨(cutA l).toArray⟩)
  rw [parse_vp] at HPA
  have h240 : (⟨(cutB l).toArray⟩ : ByteArray).size ≤ 4000000000 := by rw [size_mk]; omega
  have HRD := Lib.hid (fun W => read21 ⟨(cutB l).toArray⟩ W (by unfold maxLen; omega))
  obtain ⟨NM, hNM⟩ : ∃ NM : ByteArray, NM = ⟨(readS ⟨(cutB l).toArray⟩).toArray⟩ := ⟨_, rfl⟩
  rw [← hNM] at HRD
  generalize readB ⟨(cutB l).toArray⟩ = B3 at HRD hno
  have hno' : (!ls.isEmpty) = false ∨ (((vp (cutA l) : Nat) : Int) == 0) = true ∨ B3 = false := by
    rcases hno with h | h | h
    · exact .inl h
    · exact .inr (.inl (by rw [h]; rfl))
    · exact .inr (.inr h)
  clear hno
  generalize ((vp (cutA l) : Nat) : Int) = VI at HPA hno'
  clear hNM
  unfold cutA at HPA
  unfold cutB at HRD
  generalize hca : Lib.cut l [58, 32] = C at HCU HPA HRD
  obtain ⟨ca, cb, cf⟩ := C
  simp only at HCU HPA HRD
  generalize (⟨ca.toArray⟩ : ByteArray) = CA at HCU HPA
  generalize (⟨cb.toArray⟩ : ByteArray) = CB at HCU HRD
  generalize (!ls.isEmpty) = B1 at HNX hno'
  have H := Lib.hid h
  have HM := Lib.hid hm
  have HT := Lib.hid ht
  have hlt := h.lt
  have hm1 := hm.lt
  clear hbl2 h hm ht hL hLd hbd hbl hn hblen h240 hf hca hl
  have hb0 := (Below.refl w.heap.size w).alloc (Nat.le_refl _) (.cells #[.string ⟨#[]⟩, .int .i64 0] 49)
  have H0 := Lib.hid (H.out.below hb0 hlt)
  have HM0 := Lib.hid (HM.out.alloc (.cells #[.string ⟨#[]⟩, .int .i64 0] 49))
  have HB0 := Lib.hid hb0
  have Z0 := Lib.hid (Blk.new w 49 #[.string ⟨#[]⟩, .int .i64 0])
  have HNX0 := Lib.hid (HNX.out _ H0.out HM0.out)
  clear hb0
  have key : B1 = false ∨ (B1 = true ∧ VI = 0) ∨ (B1 = true ∧ (VI == 0) = false ∧ B3 = false) := by
    cases B1 with
    | false => exact .inl rfl
    | true =>
      cases hv : (VI == 0) with
      | true => exact .inr (.inl ⟨rfl, beq_iff_eq.1 hv⟩)
      | false =>
        rcases hno' with h | h | h
        · cases h
        · rw [hv] at h; cases h
        · exact .inr (.inr ⟨rfl, rfl, h⟩)
  clear hno'
  rcases key with rfl | ⟨rfl, rfl⟩ | ⟨rfl, hvb, rfl⟩
  all_goals
    go_enter Tryd.func102, Tryd.ntmps102
    go_wp2_with fail
    refine HNX0.out.mono ?_
    rintro e w1 ⟨rfl, n1, rfl⟩
    have HM1 := Lib.hid (HM0.out.drewN n1)
    go_wp2_with fail
    refine (HCU.out _ HM1.out).mono ?_
    rintro e w2 ⟨rfl, n2, rfl⟩
    have HT2 := Lib.hid (TabAt.below (w' := (w.alloc (.cells #[.string ⟨#[]⟩, .int .i64 0] 49)).drewN (n1 + n2)) HT.out ⟨HB0.out.os, HB0.out.tape, HB0.out.output, HB0.out.size, HB0.out.block⟩)
    go_wp2_with fail
    refine (HPA.out _ HT2.out).mono ?_
    rintro e w3 ⟨rfl, rfl⟩
    go_wp2_with fail
    refine (HRD.out _).mono ?_
    rintro e w4 ⟨rfl, b4⟩
    have R5 := Lib.hid ((H0.out.drewN (n1 + n2)).below b4 (by simp; omega))
    have Z5 := Lib.hid ((Z0.out.drewN (n1 + n2)).below b4 (by simp))
    have HG5 := Lib.hid (gb_trans (gb_trans (gb_below HB0.out (some rp)) (gb_of_drewN _ (n1 + n2) _)) (gb_below b4 (some rp)))
    obtain ⟨_, _, z2, z3⟩ := blk2 Z5.out
    have hz5 := Z5.out.lt
    clear b4
    go_wp2
    have Z6 := (Z5.out.set_ 0 (.string ⟨#[]⟩)).set_ 1 (.int .i64 0)
    obtain ⟨c0, c1, _, _⟩ := blk2 (a := .string ⟨#[]⟩) (b := .int .i64 0) Z6
    exact bodyPost_ret (v := .tuple #[.agg #[.string ⟨#[]⟩, .int .i64 0], .bool false]) (by simp [results, Tryd.results102, go_sem, c0, c1]) rfl ⟨rfl, (Blk.far (Blk.far R5.out (p := ⟨w.heap.size, 0, none⟩) (by simp; omega) _) (p := ⟨w.heap.size, 1, none⟩) (by simp; omega) _), gb_set (g := rp) (p := ⟨w.heap.size, 1, none⟩) (gb_set (g := rp) (p := ⟨w.heap.size, 0, none⟩) HG5.out (.inr (Nat.le_refl _)) _) (.inr (Nat.le_refl _)) _⟩
end Go.Proofs.YtplenagncmhhoaaDoor
