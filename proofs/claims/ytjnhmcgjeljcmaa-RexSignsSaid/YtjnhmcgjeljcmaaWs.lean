/- rex.setText, all cases. -/
import Derived.Test.YtjnhmcgjeljcmaaWr
import Derived.Test.YtjnhmcgjeljcmaaGr
namespace Go.Proofs.Ytjnhmcgjeljcmaa
open Go.RowKit

/-- Two rows of ranges in memory as slices. -/
theorem rg_up {w w' : World} {B n : Nat} {v : Value} {l : List (UInt8 × UInt8)} (h : w.ownsRow B 37 2 v n (rgCells l)) (hb : Below w.heap.size w w') :
    ∃ A c, v = .slice A l.length c ∧ l.length ≤ maxLen ∧ RgAt w' (· < w'.heap.size) A l.length l := by
  obtain ⟨A, c, hv, _, hm, hr⟩ := rg_of_own h
  exact ⟨A, c, hv, hm, (hr.keep (w' := w') fun b hb' => hb.block b hb'.2.1).mono fun b hb' => Nat.lt_of_lt_of_le hb'.2.1 hb.size⟩
theorem str91 (q : List UInt8) : ((⟨#[91]⟩ ++ ⟨q.toArray⟩) ++ ⟨#[93]⟩ : ByteArray) = ⟨(91 :: (q ++ [93])).toArray⟩ := by
  apply ByteArray.ext
  rw [ByteArray.data_append, ByteArray.data_append]; simp
theorem str94 (q : List UInt8) : ((⟨#[91, 94]⟩ ++ ⟨q.toArray⟩) ++ ⟨#[93]⟩ : ByteArray) = ⟨(91 :: 94 :: (q ++ [93])).toArray⟩ := by
  apply ByteArray.ext
  rw [ByteArray.data_append, ByteArray.data_append]; simp

set_option maxHeartbeats 1000000 in
set_option maxRecDepth 100000 in
theorem setText_one (A : Option Addr) (n c : Nat) (rs a o : List (UInt8 × UInt8)) (w : World) (hr : RgAt w (· < w.heap.size) A n rs) (hn : n ≤ maxLen) (ha : rangesL rs false = a) (ho : rangesL rs true = o) (h4 : a.length ≤ 256) (h5 : o.length ≤ 256) (x : UInt8) (hax : a = [(x, x)]) :
    Calls Try.prog 58 #[.slice A n c] w fun e w' => e = .returned (.string ⟨(letterT sgs x).toArray⟩) ∧ Below w.heap.size w w' := by
  have H1 := Lib.hid (fun W (h : RgAt W (· < W.heap.size) A n rs) => ranges_any A n c rs false W h hn)
  have H2 := Lib.hid (fun W (h : RgAt W (· < W.heap.size) A n rs) => ranges_any A n c rs true W h hn)
  rw [ha] at H1
  rw [ho] at H2
  clear ha ho
  have _ := h4
  have _ := h5
  go_enter Try.func58, Try.ntmps58
  go_wp2_with fail
  refine (H1.out _ hr).mono ?_
  rintro e w1 ⟨v1, rfl, hown1, b1⟩
  go_wp2_with fail
  have hr1 : RgAt w1 (· < w1.heap.size) A n rs := (hr.keep (w' := w1) fun b hb => b1.block b hb).mono fun b hb => Nat.lt_of_lt_of_le hb b1.size
  refine (H2.out _ hr1).mono ?_
  rintro e w2 ⟨v2, rfl, hown2, b2⟩
  obtain ⟨A1, c1, rfl, hm1, hra⟩ := rg_up hown1 b2
  obtain ⟨A2, c2, rfl, hm2, hro⟩ := rg_up hown2 (Below.refl _ w2)
  have hb := b1.trans (b2.mono b1.size)
  have HRA := Lib.hid hra
  have HRO := Lib.hid hro
  clear hr hr1 H1 H2 hown1 hown2 b1 b2 hra hro
  subst hax
  obtain ⟨bba, ooa, hAa, hXa, hca⟩ := HRA.out.2 (by simp)
  obtain ⟨e0a, e1a⟩ := hca 0 _ rfl
  have hX2a : bba < w2.heap.size := hXa
  simp only [Nat.zero_mul, Nat.add_zero] at e0a e1a
  subst hAa
  clear hca
  go_wp2
  go_region_held3 (fun W => W.cell? ⟨bba, ooa, none⟩ = some (.int .u8 x.toNat) ∧ W.cell? ⟨bba, ooa + 1, none⟩ = some (.int .u8 x.toNat)) (go_keep)
    ((go_at_call 92; refine (xone_any x _).mono ?_; rintro e w3 ⟨rfl, hba⟩
      have g0a := (hba.cell (p := ⟨bba, ooa, none⟩) hX2a).trans e0a
      have g1a := (hba.cell (p := ⟨bba, ooa + 1, none⟩) hX2a).trans e1a))
  have hba' : Below w2.heap.size w2 w3 := ⟨hba.os, hba.tape, hba.output, hba.size, hba.block⟩
  have hc3 := hb.trans (hba'.mono hb.size)
  have HRO3 := Lib.hid ((HRO.out.keep (w' := w3) fun b hb' => hba'.block b hb').mono (Y := (· < w3.heap.size)) fun b hb' => Nat.lt_of_lt_of_le hb' hba'.size)
  have HRA3 := Lib.hid ((HRA.out.keep (w' := w3) fun b hb' => hba'.block b hb').mono (Y := (· < w3.heap.size)) fun b hb' => Nat.lt_of_lt_of_le hb' hba'.size)
  go_wp2_with fail
  refine (letterText_any sgs sgs_ix x _).mono ?_
  rintro e w4 ⟨rfl, b4⟩
  go_wp2
  go_ret
  exact ⟨rfl, hc3.trans (b4.mono hc3.size)⟩

set_option maxHeartbeats 1000000 in
set_option maxRecDepth 100000 in
theorem setText_B_dot (A : Option Addr) (n c : Nat) (rs a o : List (UInt8 × UInt8)) (w : World) (hr : RgAt w (· < w.heap.size) A n rs) (hn : n ≤ maxLen) (ha : rangesL rs false = a) (ho : rangesL rs true = o) (h4 : a.length ≤ 256) (h5 : o.length ≤ 256) (x y : UInt8) (hax : a = [(x, y)]) (hyx : ¬ ((y.toNat : Nat) : Int) = ((x.toNat : Nat) : Int)) (hox : o = [(10, 10)]) :
    Calls Try.prog 58 #[.slice A n c] w fun e w' => e = .returned (.string ⟨([46]).toArray⟩) ∧ Below w.heap.size w w' := by
  have H1 := Lib.hid (fun W (h : RgAt W (· < W.heap.size) A n rs) => ranges_any A n c rs false W h hn)
  have H2 := Lib.hid (fun W (h : RgAt W (· < W.heap.size) A n rs) => ranges_any A n c rs true W h hn)
  rw [ha] at H1
  rw [ho] at H2
  clear ha ho
  have _ := h4
  have _ := h5
  go_enter Try.func58, Try.ntmps58
  go_wp2_with fail
  refine (H1.out _ hr).mono ?_
  rintro e w1 ⟨v1, rfl, hown1, b1⟩
  go_wp2_with fail
  have hr1 : RgAt w1 (· < w1.heap.size) A n rs := (hr.keep (w' := w1) fun b hb => b1.block b hb).mono fun b hb => Nat.lt_of_lt_of_le hb b1.size
  refine (H2.out _ hr1).mono ?_
  rintro e w2 ⟨v2, rfl, hown2, b2⟩
  obtain ⟨A1, c1, rfl, hm1, hra⟩ := rg_up hown1 b2
  obtain ⟨A2, c2, rfl, hm2, hro⟩ := rg_up hown2 (Below.refl _ w2)
  have hb := b1.trans (b2.mono b1.size)
  have HRA := Lib.hid hra
  have HRO := Lib.hid hro
  clear hr hr1 H1 H2 hown1 hown2 b1 b2 hra hro
  subst hax
  subst hox
  obtain ⟨bba, ooa, hAa, hXa, hca⟩ := HRA.out.2 (by simp)
  obtain ⟨e0a, e1a⟩ := hca 0 _ rfl
  have hX2a : bba < w2.heap.size := hXa
  simp only [Nat.zero_mul, Nat.add_zero] at e0a e1a
  subst hAa
  clear hca
  go_wp2
  go_region_held3 (fun W => W.cell? ⟨bba, ooa, none⟩ = some (.int .u8 x.toNat) ∧ W.cell? ⟨bba, ooa + 1, none⟩ = some (.int .u8 y.toNat)) (go_keep)
    ((go_at_call 92; refine (xone_any x _).mono ?_; rintro e w3 ⟨rfl, hba⟩
      have g0a := (hba.cell (p := ⟨bba, ooa, none⟩) hX2a).trans e0a
      have g1a := (hba.cell (p := ⟨bba, ooa + 1, none⟩) hX2a).trans e1a))
  have hba' : Below w2.heap.size w2 w3 := ⟨hba.os, hba.tape, hba.output, hba.size, hba.block⟩
  have hc3 := hb.trans (hba'.mono hb.size)
  have HRO3 := Lib.hid ((HRO.out.keep (w' := w3) fun b hb' => hba'.block b hb').mono (Y := (· < w3.heap.size)) fun b hb' => Nat.lt_of_lt_of_le hb' hba'.size)
  have HRA3 := Lib.hid ((HRA.out.keep (w' := w3) fun b hb' => hba'.block b hb').mono (Y := (· < w3.heap.size)) fun b hb' => Nat.lt_of_lt_of_le hb' hba'.size)
  obtain ⟨bbo, ooo, hAo, hXo, hco⟩ := HRO3.out.2 (by simp)
  obtain ⟨e0o, e1o⟩ := hco 0 _ rfl
  have hX2o : bbo < w3.heap.size := hXo
  simp only [Nat.zero_mul, Nat.add_zero] at e0o e1o
  subst hAo
  clear hco
  go_wp2
  go_region_held3 (fun W => W.cell? ⟨bbo, ooo, none⟩ = some (.int .u8 (10 : UInt8).toNat) ∧ W.cell? ⟨bbo, ooo + 1, none⟩ = some (.int .u8 (10 : UInt8).toNat)) (go_keep)
    ((go_at_call 92; refine (xone_any 10 _).mono ?_; rintro e w4 ⟨rfl, hbo⟩
      have g0o := (hbo.cell (p := ⟨bbo, ooo, none⟩) hX2o).trans e0o
      have g1o := (hbo.cell (p := ⟨bbo, ooo + 1, none⟩) hX2o).trans e1o))
  have hbo' : Below w3.heap.size w3 w4 := ⟨hbo.os, hbo.tape, hbo.output, hbo.size, hbo.block⟩
  have hc4 := hc3.trans (hbo'.mono hc3.size)
  go_wp2
  go_ret
  exact ⟨rfl, hc4⟩

set_option maxHeartbeats 1000000 in
set_option maxRecDepth 100000 in
theorem setText_B_f1a (A : Option Addr) (n c : Nat) (rs a o : List (UInt8 × UInt8)) (w : World) (hr : RgAt w (· < w.heap.size) A n rs) (hn : n ≤ maxLen) (ha : rangesL rs false = a) (ho : rangesL rs true = o) (h4 : a.length ≤ 256) (h5 : o.length ≤ 256) (x y : UInt8) (hax : a = [(x, y)]) (hyx : ¬ ((y.toNat : Nat) : Int) = ((x.toNat : Nat) : Int)) (u v : UInt8) (hox : o = [(u, v)]) (hu : ¬ ((u.toNat : Nat) : Int) = 10) :
    Calls Try.prog 58 #[.slice A n c] w fun e w' => e = .returned (.string ⟨([91] ++ rangesT [(x, y)] ++ [93]).toArray⟩) ∧ Below w.heap.size w w' := by
  have H1 := Lib.hid (fun W (h : RgAt W (· < W.heap.size) A n rs) => ranges_any A n c rs false W h hn)
  have H2 := Lib.hid (fun W (h : RgAt W (· < W.heap.size) A n rs) => ranges_any A n c rs true W h hn)
  rw [ha] at H1
  rw [ho] at H2
  clear ha ho
  have _ := h4
  have _ := h5
  go_enter Try.func58, Try.ntmps58
  go_wp2_with fail
  refine (H1.out _ hr).mono ?_
  rintro e w1 ⟨v1, rfl, hown1, b1⟩
  go_wp2_with fail
  have hr1 : RgAt w1 (· < w1.heap.size) A n rs := (hr.keep (w' := w1) fun b hb => b1.block b hb).mono fun b hb => Nat.lt_of_lt_of_le hb b1.size
  refine (H2.out _ hr1).mono ?_
  rintro e w2 ⟨v2, rfl, hown2, b2⟩
  obtain ⟨A1, c1, rfl, hm1, hra⟩ := rg_up hown1 b2
  obtain ⟨A2, c2, rfl, hm2, hro⟩ := rg_up hown2 (Below.refl _ w2)
  have hb := b1.trans (b2.mono b1.size)
  have HRA := Lib.hid hra
  have HRO := Lib.hid hro
  clear hr hr1 H1 H2 hown1 hown2 b1 b2 hra hro
  subst hax
  subst hox
  obtain ⟨bba, ooa, hAa, hXa, hca⟩ := HRA.out.2 (by simp)
  obtain ⟨e0a, e1a⟩ := hca 0 _ rfl
  have hX2a : bba < w2.heap.size := hXa
  simp only [Nat.zero_mul, Nat.add_zero] at e0a e1a
  subst hAa
  clear hca
  go_wp2
  go_region_held3 (fun W => W.cell? ⟨bba, ooa, none⟩ = some (.int .u8 x.toNat) ∧ W.cell? ⟨bba, ooa + 1, none⟩ = some (.int .u8 y.toNat)) (go_keep)
    ((go_at_call 92; refine (xone_any x _).mono ?_; rintro e w3 ⟨rfl, hba⟩
      have g0a := (hba.cell (p := ⟨bba, ooa, none⟩) hX2a).trans e0a
      have g1a := (hba.cell (p := ⟨bba, ooa + 1, none⟩) hX2a).trans e1a))
  have hba' : Below w2.heap.size w2 w3 := ⟨hba.os, hba.tape, hba.output, hba.size, hba.block⟩
  have hc3 := hb.trans (hba'.mono hb.size)
  have HRO3 := Lib.hid ((HRO.out.keep (w' := w3) fun b hb' => hba'.block b hb').mono (Y := (· < w3.heap.size)) fun b hb' => Nat.lt_of_lt_of_le hb' hba'.size)
  have HRA3 := Lib.hid ((HRA.out.keep (w' := w3) fun b hb' => hba'.block b hb').mono (Y := (· < w3.heap.size)) fun b hb' => Nat.lt_of_lt_of_le hb' hba'.size)
  obtain ⟨bbo, ooo, hAo, hXo, hco⟩ := HRO3.out.2 (by simp)
  obtain ⟨e0o, e1o⟩ := hco 0 _ rfl
  have hX2o : bbo < w3.heap.size := hXo
  simp only [Nat.zero_mul, Nat.add_zero] at e0o e1o
  subst hAo
  clear hco
  go_wp2
  go_region_held3 (fun W => W.cell? ⟨bbo, ooo, none⟩ = some (.int .u8 u.toNat) ∧ W.cell? ⟨bbo, ooo + 1, none⟩ = some (.int .u8 v.toNat)) (go_keep)
    ((go_at_call 92; refine (xone_any 10 _).mono ?_; rintro e w4 ⟨rfl, hbo⟩
      have g0o := (hbo.cell (p := ⟨bbo, ooo, none⟩) hX2o).trans e0o
      have g1o := (hbo.cell (p := ⟨bbo, ooo + 1, none⟩) hX2o).trans e1o))
  have hbo' : Below w3.heap.size w3 w4 := ⟨hbo.os, hbo.tape, hbo.output, hbo.size, hbo.block⟩
  have hc4 := hc3.trans (hbo'.mono hc3.size)
  have HRO4 := Lib.hid ((HRO3.out.keep (w' := w4) fun b hb' => hbo'.block b hb').mono (Y := (· < w4.heap.size)) fun b hb' => Nat.lt_of_lt_of_le hb' hbo'.size)
  have HRA4 := Lib.hid ((HRA3.out.keep (w' := w4) fun b hb' => hbo'.block b hb').mono (Y := (· < w4.heap.size)) fun b hb' => Nat.lt_of_lt_of_le hb' hbo'.size)
  go_wp2_with fail
  refine (rangesText_any _ _ _ _ _ HRA4.out (by first | omega | simp)).mono ?_
  rintro e w5 ⟨rfl, b5⟩
  have hq1 := rangesT_len [(x, y)]
  have hq2 : (rangesT [(x, y)]).length ≤ 2000 := by first | omega | (simp at hq1; omega)
  have hq3 : (⟨(rangesT [(x, y)]).toArray⟩ : ByteArray).size ≤ 2000 := hq2
  clear hq1
  go_wp2
  go_ret
  exact ⟨congrArg (fun s => Ending.returned (.string s)) (str91 _), hc4.trans (b5.mono hc4.size)⟩

set_option maxHeartbeats 1000000 in
set_option maxRecDepth 100000 in
theorem setText_B_f1b (A : Option Addr) (n c : Nat) (rs a o : List (UInt8 × UInt8)) (w : World) (hr : RgAt w (· < w.heap.size) A n rs) (hn : n ≤ maxLen) (ha : rangesL rs false = a) (ho : rangesL rs true = o) (h4 : a.length ≤ 256) (h5 : o.length ≤ 256) (x y : UInt8) (hax : a = [(x, y)]) (hyx : ¬ ((y.toNat : Nat) : Int) = ((x.toNat : Nat) : Int)) (v : UInt8) (hox : o = [(10, v)]) (hu : ¬ ((v.toNat : Nat) : Int) = 10) :
    Calls Try.prog 58 #[.slice A n c] w fun e w' => e = .returned (.string ⟨([91] ++ rangesT [(x, y)] ++ [93]).toArray⟩) ∧ Below w.heap.size w w' := by
  have H1 := Lib.hid (fun W (h : RgAt W (· < W.heap.size) A n rs) => ranges_any A n c rs false W h hn)
  have H2 := Lib.hid (fun W (h : RgAt W (· < W.heap.size) A n rs) => ranges_any A n c rs true W h hn)
  rw [ha] at H1
  rw [ho] at H2
  clear ha ho
  have _ := h4
  have _ := h5
  go_enter Try.func58, Try.ntmps58
  go_wp2_with fail
  refine (H1.out _ hr).mono ?_
  rintro e w1 ⟨v1, rfl, hown1, b1⟩
  go_wp2_with fail
  have hr1 : RgAt w1 (· < w1.heap.size) A n rs := (hr.keep (w' := w1) fun b hb => b1.block b hb).mono fun b hb => Nat.lt_of_lt_of_le hb b1.size
  refine (H2.out _ hr1).mono ?_
  rintro e w2 ⟨v2, rfl, hown2, b2⟩
  obtain ⟨A1, c1, rfl, hm1, hra⟩ := rg_up hown1 b2
  obtain ⟨A2, c2, rfl, hm2, hro⟩ := rg_up hown2 (Below.refl _ w2)
  have hb := b1.trans (b2.mono b1.size)
  have HRA := Lib.hid hra
  have HRO := Lib.hid hro
  clear hr hr1 H1 H2 hown1 hown2 b1 b2 hra hro
  subst hax
  subst hox
  obtain ⟨bba, ooa, hAa, hXa, hca⟩ := HRA.out.2 (by simp)
  obtain ⟨e0a, e1a⟩ := hca 0 _ rfl
  have hX2a : bba < w2.heap.size := hXa
  simp only [Nat.zero_mul, Nat.add_zero] at e0a e1a
  subst hAa
  clear hca
  go_wp2
  go_region_held3 (fun W => W.cell? ⟨bba, ooa, none⟩ = some (.int .u8 x.toNat) ∧ W.cell? ⟨bba, ooa + 1, none⟩ = some (.int .u8 y.toNat)) (go_keep)
    ((go_at_call 92; refine (xone_any x _).mono ?_; rintro e w3 ⟨rfl, hba⟩
      have g0a := (hba.cell (p := ⟨bba, ooa, none⟩) hX2a).trans e0a
      have g1a := (hba.cell (p := ⟨bba, ooa + 1, none⟩) hX2a).trans e1a))
  have hba' : Below w2.heap.size w2 w3 := ⟨hba.os, hba.tape, hba.output, hba.size, hba.block⟩
  have hc3 := hb.trans (hba'.mono hb.size)
  have HRO3 := Lib.hid ((HRO.out.keep (w' := w3) fun b hb' => hba'.block b hb').mono (Y := (· < w3.heap.size)) fun b hb' => Nat.lt_of_lt_of_le hb' hba'.size)
  have HRA3 := Lib.hid ((HRA.out.keep (w' := w3) fun b hb' => hba'.block b hb').mono (Y := (· < w3.heap.size)) fun b hb' => Nat.lt_of_lt_of_le hb' hba'.size)
  obtain ⟨bbo, ooo, hAo, hXo, hco⟩ := HRO3.out.2 (by simp)
  obtain ⟨e0o, e1o⟩ := hco 0 _ rfl
  have hX2o : bbo < w3.heap.size := hXo
  simp only [Nat.zero_mul, Nat.add_zero] at e0o e1o
  subst hAo
  clear hco
  go_wp2
  go_region_held3 (fun W => W.cell? ⟨bbo, ooo, none⟩ = some (.int .u8 (10 : UInt8).toNat) ∧ W.cell? ⟨bbo, ooo + 1, none⟩ = some (.int .u8 v.toNat)) (go_keep)
    ((go_at_call 92; refine (xone_any 10 _).mono ?_; rintro e w4 ⟨rfl, hbo⟩
      have g0o := (hbo.cell (p := ⟨bbo, ooo, none⟩) hX2o).trans e0o
      have g1o := (hbo.cell (p := ⟨bbo, ooo + 1, none⟩) hX2o).trans e1o))
  have hbo' : Below w3.heap.size w3 w4 := ⟨hbo.os, hbo.tape, hbo.output, hbo.size, hbo.block⟩
  have hc4 := hc3.trans (hbo'.mono hc3.size)
  have HRO4 := Lib.hid ((HRO3.out.keep (w' := w4) fun b hb' => hbo'.block b hb').mono (Y := (· < w4.heap.size)) fun b hb' => Nat.lt_of_lt_of_le hb' hbo'.size)
  have HRA4 := Lib.hid ((HRA3.out.keep (w' := w4) fun b hb' => hbo'.block b hb').mono (Y := (· < w4.heap.size)) fun b hb' => Nat.lt_of_lt_of_le hb' hbo'.size)
  go_wp2_with fail
  refine (rangesText_any _ _ _ _ _ HRA4.out (by first | omega | simp)).mono ?_
  rintro e w5 ⟨rfl, b5⟩
  have hq1 := rangesT_len [(x, y)]
  have hq2 : (rangesT [(x, y)]).length ≤ 2000 := by first | omega | (simp at hq1; omega)
  have hq3 : (⟨(rangesT [(x, y)]).toArray⟩ : ByteArray).size ≤ 2000 := hq2
  clear hq1
  go_wp2
  go_ret
  exact ⟨congrArg (fun s => Ending.returned (.string s)) (str91 _), hc4.trans (b5.mono hc4.size)⟩

set_option maxHeartbeats 1000000 in
set_option maxRecDepth 100000 in
theorem setText_B_f20 (A : Option Addr) (n c : Nat) (rs a o : List (UInt8 × UInt8)) (w : World) (hr : RgAt w (· < w.heap.size) A n rs) (hn : n ≤ maxLen) (ha : rangesL rs false = a) (ho : rangesL rs true = o) (h4 : a.length ≤ 256) (h5 : o.length ≤ 256) (x y : UInt8) (hax : a = [(x, y)]) (hyx : ¬ ((y.toNat : Nat) : Int) = ((x.toNat : Nat) : Int)) (hol0 : o.length ≠ 1) (k1 : o.length = 0) :
    Calls Try.prog 58 #[.slice A n c] w fun e w' => e = .returned (.string ⟨([91] ++ rangesT [(x, y)] ++ [93]).toArray⟩) ∧ Below w.heap.size w w' := by
  have H1 := Lib.hid (fun W (h : RgAt W (· < W.heap.size) A n rs) => ranges_any A n c rs false W h hn)
  have H2 := Lib.hid (fun W (h : RgAt W (· < W.heap.size) A n rs) => ranges_any A n c rs true W h hn)
  rw [ha] at H1
  rw [ho] at H2
  clear ha ho
  have _ := h4
  have _ := h5
  have _ := hol0
  go_enter Try.func58, Try.ntmps58
  go_wp2_with fail
  refine (H1.out _ hr).mono ?_
  rintro e w1 ⟨v1, rfl, hown1, b1⟩
  go_wp2_with fail
  have hr1 : RgAt w1 (· < w1.heap.size) A n rs := (hr.keep (w' := w1) fun b hb => b1.block b hb).mono fun b hb => Nat.lt_of_lt_of_le hb b1.size
  refine (H2.out _ hr1).mono ?_
  rintro e w2 ⟨v2, rfl, hown2, b2⟩
  obtain ⟨A1, c1, rfl, hm1, hra⟩ := rg_up hown1 b2
  obtain ⟨A2, c2, rfl, hm2, hro⟩ := rg_up hown2 (Below.refl _ w2)
  have hb := b1.trans (b2.mono b1.size)
  have HRA := Lib.hid hra
  have HRO := Lib.hid hro
  clear hr hr1 H1 H2 hown1 hown2 b1 b2 hra hro
  subst hax
  obtain ⟨bba, ooa, hAa, hXa, hca⟩ := HRA.out.2 (by simp)
  obtain ⟨e0a, e1a⟩ := hca 0 _ rfl
  have hX2a : bba < w2.heap.size := hXa
  simp only [Nat.zero_mul, Nat.add_zero] at e0a e1a
  subst hAa
  clear hca
  go_wp2
  go_region_held3 (fun W => W.cell? ⟨bba, ooa, none⟩ = some (.int .u8 x.toNat) ∧ W.cell? ⟨bba, ooa + 1, none⟩ = some (.int .u8 y.toNat)) (go_keep)
    ((go_at_call 92; refine (xone_any x _).mono ?_; rintro e w3 ⟨rfl, hba⟩
      have g0a := (hba.cell (p := ⟨bba, ooa, none⟩) hX2a).trans e0a
      have g1a := (hba.cell (p := ⟨bba, ooa + 1, none⟩) hX2a).trans e1a))
  have hba' : Below w2.heap.size w2 w3 := ⟨hba.os, hba.tape, hba.output, hba.size, hba.block⟩
  have hc3 := hb.trans (hba'.mono hb.size)
  have HRO3 := Lib.hid ((HRO.out.keep (w' := w3) fun b hb' => hba'.block b hb').mono (Y := (· < w3.heap.size)) fun b hb' => Nat.lt_of_lt_of_le hb' hba'.size)
  have HRA3 := Lib.hid ((HRA.out.keep (w' := w3) fun b hb' => hba'.block b hb').mono (Y := (· < w3.heap.size)) fun b hb' => Nat.lt_of_lt_of_le hb' hba'.size)
  have k1' : (o.length : Int) = 0 := by omega
  have hol : ¬ (o.length : Int) = 1 := by omega
  have hole : ((o.length : Int) == 1) = false := by simpa using hol
  go_wp2
  go_region
  have hbo' : Below w3.heap.size w3 w3.drew := ⟨rfl, rfl, rfl, Nat.le_refl _, fun _ _ => rfl⟩
  obtain ⟨w4, hw4⟩ : ∃ w4, w4 = w3.drew := ⟨_, rfl⟩
  rw [← hw4] at hbo' ⊢
  have hc4 := hc3.trans (hbo'.mono hc3.size)
  clear hw4
  have HRO4 := Lib.hid ((HRO3.out.keep (w' := w4) fun b hb' => hbo'.block b hb').mono (Y := (· < w4.heap.size)) fun b hb' => Nat.lt_of_lt_of_le hb' hbo'.size)
  have HRA4 := Lib.hid ((HRA3.out.keep (w' := w4) fun b hb' => hbo'.block b hb').mono (Y := (· < w4.heap.size)) fun b hb' => Nat.lt_of_lt_of_le hb' hbo'.size)
  go_wp2_with fail
  refine (rangesText_any _ _ _ _ _ HRA4.out (by first | omega | simp)).mono ?_
  rintro e w5 ⟨rfl, b5⟩
  have hq1 := rangesT_len [(x, y)]
  have hq2 : (rangesT [(x, y)]).length ≤ 2000 := by first | omega | (simp at hq1; omega)
  have hq3 : (⟨(rangesT [(x, y)]).toArray⟩ : ByteArray).size ≤ 2000 := hq2
  clear hq1
  go_wp2
  go_ret
  exact ⟨congrArg (fun s => Ending.returned (.string s)) (str91 _), hc4.trans (b5.mono hc4.size)⟩

set_option maxHeartbeats 1000000 in
set_option maxRecDepth 100000 in
theorem setText_B_f21 (A : Option Addr) (n c : Nat) (rs a o : List (UInt8 × UInt8)) (w : World) (hr : RgAt w (· < w.heap.size) A n rs) (hn : n ≤ maxLen) (ha : rangesL rs false = a) (ho : rangesL rs true = o) (h4 : a.length ≤ 256) (h5 : o.length ≤ 256) (x y : UInt8) (hax : a = [(x, y)]) (hyx : ¬ ((y.toNat : Nat) : Int) = ((x.toNat : Nat) : Int)) (hol0 : o.length ≠ 1) (k1 : 1 ≤ o.length) :
    Calls Try.prog 58 #[.slice A n c] w fun e w' => e = .returned (.string ⟨([91] ++ rangesT [(x, y)] ++ [93]).toArray⟩) ∧ Below w.heap.size w w' := by
  have H1 := Lib.hid (fun W (h : RgAt W (· < W.heap.size) A n rs) => ranges_any A n c rs false W h hn)
  have H2 := Lib.hid (fun W (h : RgAt W (· < W.heap.size) A n rs) => ranges_any A n c rs true W h hn)
  rw [ha] at H1
  rw [ho] at H2
  clear ha ho
  have _ := h4
  have _ := h5
  have _ := hol0
  go_enter Try.func58, Try.ntmps58
  go_wp2_with fail
  refine (H1.out _ hr).mono ?_
  rintro e w1 ⟨v1, rfl, hown1, b1⟩
  go_wp2_with fail
  have hr1 : RgAt w1 (· < w1.heap.size) A n rs := (hr.keep (w' := w1) fun b hb => b1.block b hb).mono fun b hb => Nat.lt_of_lt_of_le hb b1.size
  refine (H2.out _ hr1).mono ?_
  rintro e w2 ⟨v2, rfl, hown2, b2⟩
  obtain ⟨A1, c1, rfl, hm1, hra⟩ := rg_up hown1 b2
  obtain ⟨A2, c2, rfl, hm2, hro⟩ := rg_up hown2 (Below.refl _ w2)
  have hb := b1.trans (b2.mono b1.size)
  have HRA := Lib.hid hra
  have HRO := Lib.hid hro
  clear hr hr1 H1 H2 hown1 hown2 b1 b2 hra hro
  subst hax
  obtain ⟨bba, ooa, hAa, hXa, hca⟩ := HRA.out.2 (by simp)
  obtain ⟨e0a, e1a⟩ := hca 0 _ rfl
  have hX2a : bba < w2.heap.size := hXa
  simp only [Nat.zero_mul, Nat.add_zero] at e0a e1a
  subst hAa
  clear hca
  go_wp2
  go_region_held3 (fun W => W.cell? ⟨bba, ooa, none⟩ = some (.int .u8 x.toNat) ∧ W.cell? ⟨bba, ooa + 1, none⟩ = some (.int .u8 y.toNat)) (go_keep)
    ((go_at_call 92; refine (xone_any x _).mono ?_; rintro e w3 ⟨rfl, hba⟩
      have g0a := (hba.cell (p := ⟨bba, ooa, none⟩) hX2a).trans e0a
      have g1a := (hba.cell (p := ⟨bba, ooa + 1, none⟩) hX2a).trans e1a))
  have hba' : Below w2.heap.size w2 w3 := ⟨hba.os, hba.tape, hba.output, hba.size, hba.block⟩
  have hc3 := hb.trans (hba'.mono hb.size)
  have HRO3 := Lib.hid ((HRO.out.keep (w' := w3) fun b hb' => hba'.block b hb').mono (Y := (· < w3.heap.size)) fun b hb' => Nat.lt_of_lt_of_le hb' hba'.size)
  have HRA3 := Lib.hid ((HRA.out.keep (w' := w3) fun b hb' => hba'.block b hb').mono (Y := (· < w3.heap.size)) fun b hb' => Nat.lt_of_lt_of_le hb' hba'.size)
  have k1' : (0 : Int) < (o.length : Int) := by omega
  have k2' : ¬ (o.length : Int) < 1 := by omega
  have hol : ¬ (o.length : Int) = 1 := by omega
  have hole : ((o.length : Int) == 1) = false := by simpa using hol
  go_wp2
  go_region
  have hbo' : Below w3.heap.size w3 w3.drew := ⟨rfl, rfl, rfl, Nat.le_refl _, fun _ _ => rfl⟩
  obtain ⟨w4, hw4⟩ : ∃ w4, w4 = w3.drew := ⟨_, rfl⟩
  rw [← hw4] at hbo' ⊢
  have hc4 := hc3.trans (hbo'.mono hc3.size)
  clear hw4
  have HRO4 := Lib.hid ((HRO3.out.keep (w' := w4) fun b hb' => hbo'.block b hb').mono (Y := (· < w4.heap.size)) fun b hb' => Nat.lt_of_lt_of_le hb' hbo'.size)
  have HRA4 := Lib.hid ((HRA3.out.keep (w' := w4) fun b hb' => hbo'.block b hb').mono (Y := (· < w4.heap.size)) fun b hb' => Nat.lt_of_lt_of_le hb' hbo'.size)
  go_wp2_with fail
  refine (rangesText_any _ _ _ _ _ HRA4.out (by first | omega | simp)).mono ?_
  rintro e w5 ⟨rfl, b5⟩
  have hq1 := rangesT_len [(x, y)]
  have hq2 : (rangesT [(x, y)]).length ≤ 2000 := by first | omega | (simp at hq1; omega)
  have hq3 : (⟨(rangesT [(x, y)]).toArray⟩ : ByteArray).size ≤ 2000 := hq2
  clear hq1
  go_wp2
  go_ret
  exact ⟨congrArg (fun s => Ending.returned (.string s)) (str91 _), hc4.trans (b5.mono hc4.size)⟩

set_option maxHeartbeats 1000000 in
set_option maxRecDepth 100000 in
theorem setText_C_dot (A : Option Addr) (n c : Nat) (rs a o : List (UInt8 × UInt8)) (w : World) (hr : RgAt w (· < w.heap.size) A n rs) (hn : n ≤ maxLen) (ha : rangesL rs false = a) (ho : rangesL rs true = o) (h4 : a.length ≤ 256) (h5 : o.length ≤ 256) (hal0 : a.length ≠ 1) (hox : o = [(10, 10)]) :
    Calls Try.prog 58 #[.slice A n c] w fun e w' => e = .returned (.string ⟨([46]).toArray⟩) ∧ Below w.heap.size w w' := by
  have H1 := Lib.hid (fun W (h : RgAt W (· < W.heap.size) A n rs) => ranges_any A n c rs false W h hn)
  have H2 := Lib.hid (fun W (h : RgAt W (· < W.heap.size) A n rs) => ranges_any A n c rs true W h hn)
  rw [ha] at H1
  rw [ho] at H2
  clear ha ho
  have _ := h4
  have _ := h5
  have _ := hal0
  go_enter Try.func58, Try.ntmps58
  go_wp2_with fail
  refine (H1.out _ hr).mono ?_
  rintro e w1 ⟨v1, rfl, hown1, b1⟩
  go_wp2_with fail
  have hr1 : RgAt w1 (· < w1.heap.size) A n rs := (hr.keep (w' := w1) fun b hb => b1.block b hb).mono fun b hb => Nat.lt_of_lt_of_le hb b1.size
  refine (H2.out _ hr1).mono ?_
  rintro e w2 ⟨v2, rfl, hown2, b2⟩
  obtain ⟨A1, c1, rfl, hm1, hra⟩ := rg_up hown1 b2
  obtain ⟨A2, c2, rfl, hm2, hro⟩ := rg_up hown2 (Below.refl _ w2)
  have hb := b1.trans (b2.mono b1.size)
  have HRA := Lib.hid hra
  have HRO := Lib.hid hro
  clear hr hr1 H1 H2 hown1 hown2 b1 b2 hra hro
  subst hox
  have hal : ¬ (a.length : Int) = 1 := by omega
  have hale : ((a.length : Int) == 1) = false := by simpa using hal
  go_wp2
  go_region
  have hba' : Below w2.heap.size w2 w2.drew := ⟨rfl, rfl, rfl, Nat.le_refl _, fun _ _ => rfl⟩
  obtain ⟨w3, hw3⟩ : ∃ w3, w3 = w2.drew := ⟨_, rfl⟩
  rw [← hw3] at hba' ⊢
  have hc3 := hb.trans (hba'.mono hb.size)
  have HRO3 := Lib.hid ((HRO.out.keep (w' := w3) fun b hb' => hba'.block b hb').mono (Y := (· < w3.heap.size)) fun b hb' => Nat.lt_of_lt_of_le hb' hba'.size)
  have HRA3 := Lib.hid ((HRA.out.keep (w' := w3) fun b hb' => hba'.block b hb').mono (Y := (· < w3.heap.size)) fun b hb' => Nat.lt_of_lt_of_le hb' hba'.size)
  clear hw3
  obtain ⟨bbo, ooo, hAo, hXo, hco⟩ := HRO3.out.2 (by simp)
  obtain ⟨e0o, e1o⟩ := hco 0 _ rfl
  have hX2o : bbo < w3.heap.size := hXo
  simp only [Nat.zero_mul, Nat.add_zero] at e0o e1o
  subst hAo
  clear hco
  go_wp2
  go_region_held3 (fun W => W.cell? ⟨bbo, ooo, none⟩ = some (.int .u8 (10 : UInt8).toNat) ∧ W.cell? ⟨bbo, ooo + 1, none⟩ = some (.int .u8 (10 : UInt8).toNat)) (go_keep)
    ((go_at_call 92; refine (xone_any 10 _).mono ?_; rintro e w4 ⟨rfl, hbo⟩
      have g0o := (hbo.cell (p := ⟨bbo, ooo, none⟩) hX2o).trans e0o
      have g1o := (hbo.cell (p := ⟨bbo, ooo + 1, none⟩) hX2o).trans e1o))
  have hbo' : Below w3.heap.size w3 w4 := ⟨hbo.os, hbo.tape, hbo.output, hbo.size, hbo.block⟩
  have hc4 := hc3.trans (hbo'.mono hc3.size)
  go_wp2
  go_ret
  exact ⟨rfl, hc4⟩

set_option maxHeartbeats 1000000 in
set_option maxRecDepth 100000 in
theorem setText_C_f1a0 (A : Option Addr) (n c : Nat) (rs a o : List (UInt8 × UInt8)) (w : World) (hr : RgAt w (· < w.heap.size) A n rs) (hn : n ≤ maxLen) (ha : rangesL rs false = a) (ho : rangesL rs true = o) (h4 : a.length ≤ 256) (h5 : o.length ≤ 256) (hal0 : a.length ≠ 1) (u v : UInt8) (hox : o = [(u, v)]) (hu : ¬ ((u.toNat : Nat) : Int) = 10) (k0 : a.length = 0) :
    Calls Try.prog 58 #[.slice A n c] w fun e w' => e = .returned (.string ⟨([91, 94] ++ rangesT [(u, v)] ++ [93]).toArray⟩) ∧ Below w.heap.size w w' := by
  have H1 := Lib.hid (fun W (h : RgAt W (· < W.heap.size) A n rs) => ranges_any A n c rs false W h hn)
  have H2 := Lib.hid (fun W (h : RgAt W (· < W.heap.size) A n rs) => ranges_any A n c rs true W h hn)
  rw [ha] at H1
  rw [ho] at H2
  clear ha ho
  have _ := h4
  have _ := h5
  have _ := hal0
  go_enter Try.func58, Try.ntmps58
  go_wp2_with fail
  refine (H1.out _ hr).mono ?_
  rintro e w1 ⟨v1, rfl, hown1, b1⟩
  go_wp2_with fail
  have hr1 : RgAt w1 (· < w1.heap.size) A n rs := (hr.keep (w' := w1) fun b hb => b1.block b hb).mono fun b hb => Nat.lt_of_lt_of_le hb b1.size
  refine (H2.out _ hr1).mono ?_
  rintro e w2 ⟨v2, rfl, hown2, b2⟩
  obtain ⟨A1, c1, rfl, hm1, hra⟩ := rg_up hown1 b2
  obtain ⟨A2, c2, rfl, hm2, hro⟩ := rg_up hown2 (Below.refl _ w2)
  have hb := b1.trans (b2.mono b1.size)
  have HRA := Lib.hid hra
  have HRO := Lib.hid hro
  clear hr hr1 H1 H2 hown1 hown2 b1 b2 hra hro
  subst hox
  have hal : ¬ (a.length : Int) = 1 := by omega
  have hale : ((a.length : Int) == 1) = false := by simpa using hal
  go_wp2
  go_region
  have hba' : Below w2.heap.size w2 w2.drew := ⟨rfl, rfl, rfl, Nat.le_refl _, fun _ _ => rfl⟩
  obtain ⟨w3, hw3⟩ : ∃ w3, w3 = w2.drew := ⟨_, rfl⟩
  rw [← hw3] at hba' ⊢
  have hc3 := hb.trans (hba'.mono hb.size)
  have HRO3 := Lib.hid ((HRO.out.keep (w' := w3) fun b hb' => hba'.block b hb').mono (Y := (· < w3.heap.size)) fun b hb' => Nat.lt_of_lt_of_le hb' hba'.size)
  have HRA3 := Lib.hid ((HRA.out.keep (w' := w3) fun b hb' => hba'.block b hb').mono (Y := (· < w3.heap.size)) fun b hb' => Nat.lt_of_lt_of_le hb' hba'.size)
  clear hw3
  have k0' : (a.length : Int) = 0 := by omega
  obtain ⟨bbo, ooo, hAo, hXo, hco⟩ := HRO3.out.2 (by simp)
  obtain ⟨e0o, e1o⟩ := hco 0 _ rfl
  have hX2o : bbo < w3.heap.size := hXo
  simp only [Nat.zero_mul, Nat.add_zero] at e0o e1o
  subst hAo
  clear hco
  go_wp2
  go_region_held3 (fun W => W.cell? ⟨bbo, ooo, none⟩ = some (.int .u8 u.toNat) ∧ W.cell? ⟨bbo, ooo + 1, none⟩ = some (.int .u8 v.toNat)) (go_keep)
    ((go_at_call 92; refine (xone_any 10 _).mono ?_; rintro e w4 ⟨rfl, hbo⟩
      have g0o := (hbo.cell (p := ⟨bbo, ooo, none⟩) hX2o).trans e0o
      have g1o := (hbo.cell (p := ⟨bbo, ooo + 1, none⟩) hX2o).trans e1o))
  have hbo' : Below w3.heap.size w3 w4 := ⟨hbo.os, hbo.tape, hbo.output, hbo.size, hbo.block⟩
  have hc4 := hc3.trans (hbo'.mono hc3.size)
  have HRO4 := Lib.hid ((HRO3.out.keep (w' := w4) fun b hb' => hbo'.block b hb').mono (Y := (· < w4.heap.size)) fun b hb' => Nat.lt_of_lt_of_le hb' hbo'.size)
  have HRA4 := Lib.hid ((HRA3.out.keep (w' := w4) fun b hb' => hbo'.block b hb').mono (Y := (· < w4.heap.size)) fun b hb' => Nat.lt_of_lt_of_le hb' hbo'.size)
  go_wp2_with fail
  refine (rangesText_any _ _ _ _ _ HRO4.out (by first | omega | simp)).mono ?_
  rintro e w5 ⟨rfl, b5⟩
  have hq1 := rangesT_len [(u, v)]
  have hq2 : (rangesT [(u, v)]).length ≤ 2000 := by first | omega | (simp at hq1; omega)
  have hq3 : (⟨(rangesT [(u, v)]).toArray⟩ : ByteArray).size ≤ 2000 := hq2
  clear hq1
  go_wp2
  go_ret
  exact ⟨congrArg (fun s => Ending.returned (.string s)) (str94 _), hc4.trans (b5.mono hc4.size)⟩

set_option maxHeartbeats 1000000 in
set_option maxRecDepth 100000 in
theorem setText_C_f1a1 (A : Option Addr) (n c : Nat) (rs a o : List (UInt8 × UInt8)) (w : World) (hr : RgAt w (· < w.heap.size) A n rs) (hn : n ≤ maxLen) (ha : rangesL rs false = a) (ho : rangesL rs true = o) (h4 : a.length ≤ 256) (h5 : o.length ≤ 256) (hal0 : a.length ≠ 1) (u v : UInt8) (hox : o = [(u, v)]) (hu : ¬ ((u.toNat : Nat) : Int) = 10) (k0 : a.length ≠ 0) :
    Calls Try.prog 58 #[.slice A n c] w fun e w' => e = .returned (.string ⟨([91, 94] ++ rangesT [(u, v)] ++ [93]).toArray⟩) ∧ Below w.heap.size w w' := by
  have H1 := Lib.hid (fun W (h : RgAt W (· < W.heap.size) A n rs) => ranges_any A n c rs false W h hn)
  have H2 := Lib.hid (fun W (h : RgAt W (· < W.heap.size) A n rs) => ranges_any A n c rs true W h hn)
  rw [ha] at H1
  rw [ho] at H2
  clear ha ho
  have _ := h4
  have _ := h5
  have _ := hal0
  go_enter Try.func58, Try.ntmps58
  go_wp2_with fail
  refine (H1.out _ hr).mono ?_
  rintro e w1 ⟨v1, rfl, hown1, b1⟩
  go_wp2_with fail
  have hr1 : RgAt w1 (· < w1.heap.size) A n rs := (hr.keep (w' := w1) fun b hb => b1.block b hb).mono fun b hb => Nat.lt_of_lt_of_le hb b1.size
  refine (H2.out _ hr1).mono ?_
  rintro e w2 ⟨v2, rfl, hown2, b2⟩
  obtain ⟨A1, c1, rfl, hm1, hra⟩ := rg_up hown1 b2
  obtain ⟨A2, c2, rfl, hm2, hro⟩ := rg_up hown2 (Below.refl _ w2)
  have hb := b1.trans (b2.mono b1.size)
  have HRA := Lib.hid hra
  have HRO := Lib.hid hro
  clear hr hr1 H1 H2 hown1 hown2 b1 b2 hra hro
  subst hox
  have hal : ¬ (a.length : Int) = 1 := by omega
  have hale : ((a.length : Int) == 1) = false := by simpa using hal
  go_wp2
  go_region
  have hba' : Below w2.heap.size w2 w2.drew := ⟨rfl, rfl, rfl, Nat.le_refl _, fun _ _ => rfl⟩
  obtain ⟨w3, hw3⟩ : ∃ w3, w3 = w2.drew := ⟨_, rfl⟩
  rw [← hw3] at hba' ⊢
  have hc3 := hb.trans (hba'.mono hb.size)
  have HRO3 := Lib.hid ((HRO.out.keep (w' := w3) fun b hb' => hba'.block b hb').mono (Y := (· < w3.heap.size)) fun b hb' => Nat.lt_of_lt_of_le hb' hba'.size)
  have HRA3 := Lib.hid ((HRA.out.keep (w' := w3) fun b hb' => hba'.block b hb').mono (Y := (· < w3.heap.size)) fun b hb' => Nat.lt_of_lt_of_le hb' hba'.size)
  clear hw3
  have k0' : ¬ (a.length : Int) = 0 := by omega
  have k1 : (1 : Int) < (a.length : Int) := by omega
  obtain ⟨bbo, ooo, hAo, hXo, hco⟩ := HRO3.out.2 (by simp)
  obtain ⟨e0o, e1o⟩ := hco 0 _ rfl
  have hX2o : bbo < w3.heap.size := hXo
  simp only [Nat.zero_mul, Nat.add_zero] at e0o e1o
  subst hAo
  clear hco
  go_wp2
  go_region_held3 (fun W => W.cell? ⟨bbo, ooo, none⟩ = some (.int .u8 u.toNat) ∧ W.cell? ⟨bbo, ooo + 1, none⟩ = some (.int .u8 v.toNat)) (go_keep)
    ((go_at_call 92; refine (xone_any 10 _).mono ?_; rintro e w4 ⟨rfl, hbo⟩
      have g0o := (hbo.cell (p := ⟨bbo, ooo, none⟩) hX2o).trans e0o
      have g1o := (hbo.cell (p := ⟨bbo, ooo + 1, none⟩) hX2o).trans e1o))
  have hbo' : Below w3.heap.size w3 w4 := ⟨hbo.os, hbo.tape, hbo.output, hbo.size, hbo.block⟩
  have hc4 := hc3.trans (hbo'.mono hc3.size)
  have HRO4 := Lib.hid ((HRO3.out.keep (w' := w4) fun b hb' => hbo'.block b hb').mono (Y := (· < w4.heap.size)) fun b hb' => Nat.lt_of_lt_of_le hb' hbo'.size)
  have HRA4 := Lib.hid ((HRA3.out.keep (w' := w4) fun b hb' => hbo'.block b hb').mono (Y := (· < w4.heap.size)) fun b hb' => Nat.lt_of_lt_of_le hb' hbo'.size)
  go_wp2_with fail
  refine (rangesText_any _ _ _ _ _ HRO4.out (by first | omega | simp)).mono ?_
  rintro e w5 ⟨rfl, b5⟩
  have hq1 := rangesT_len [(u, v)]
  have hq2 : (rangesT [(u, v)]).length ≤ 2000 := by first | omega | (simp at hq1; omega)
  have hq3 : (⟨(rangesT [(u, v)]).toArray⟩ : ByteArray).size ≤ 2000 := hq2
  clear hq1
  go_wp2
  go_ret
  exact ⟨congrArg (fun s => Ending.returned (.string s)) (str94 _), hc4.trans (b5.mono hc4.size)⟩

set_option maxHeartbeats 1000000 in
set_option maxRecDepth 100000 in
theorem setText_C_f1b0 (A : Option Addr) (n c : Nat) (rs a o : List (UInt8 × UInt8)) (w : World) (hr : RgAt w (· < w.heap.size) A n rs) (hn : n ≤ maxLen) (ha : rangesL rs false = a) (ho : rangesL rs true = o) (h4 : a.length ≤ 256) (h5 : o.length ≤ 256) (hal0 : a.length ≠ 1) (v : UInt8) (hox : o = [(10, v)]) (hu : ¬ ((v.toNat : Nat) : Int) = 10) (k0 : a.length = 0) :
    Calls Try.prog 58 #[.slice A n c] w fun e w' => e = .returned (.string ⟨([91, 94] ++ rangesT [(10, v)] ++ [93]).toArray⟩) ∧ Below w.heap.size w w' := by
  have H1 := Lib.hid (fun W (h : RgAt W (· < W.heap.size) A n rs) => ranges_any A n c rs false W h hn)
  have H2 := Lib.hid (fun W (h : RgAt W (· < W.heap.size) A n rs) => ranges_any A n c rs true W h hn)
  rw [ha] at H1
  rw [ho] at H2
  clear ha ho
  have _ := h4
  have _ := h5
  have _ := hal0
  go_enter Try.func58, Try.ntmps58
  go_wp2_with fail
  refine (H1.out _ hr).mono ?_
  rintro e w1 ⟨v1, rfl, hown1, b1⟩
  go_wp2_with fail
  have hr1 : RgAt w1 (· < w1.heap.size) A n rs := (hr.keep (w' := w1) fun b hb => b1.block b hb).mono fun b hb => Nat.lt_of_lt_of_le hb b1.size
  refine (H2.out _ hr1).mono ?_
  rintro e w2 ⟨v2, rfl, hown2, b2⟩
  obtain ⟨A1, c1, rfl, hm1, hra⟩ := rg_up hown1 b2
  obtain ⟨A2, c2, rfl, hm2, hro⟩ := rg_up hown2 (Below.refl _ w2)
  have hb := b1.trans (b2.mono b1.size)
  have HRA := Lib.hid hra
  have HRO := Lib.hid hro
  clear hr hr1 H1 H2 hown1 hown2 b1 b2 hra hro
  subst hox
  have hal : ¬ (a.length : Int) = 1 := by omega
  have hale : ((a.length : Int) == 1) = false := by simpa using hal
  go_wp2
  go_region
  have hba' : Below w2.heap.size w2 w2.drew := ⟨rfl, rfl, rfl, Nat.le_refl _, fun _ _ => rfl⟩
  obtain ⟨w3, hw3⟩ : ∃ w3, w3 = w2.drew := ⟨_, rfl⟩
  rw [← hw3] at hba' ⊢
  have hc3 := hb.trans (hba'.mono hb.size)
  have HRO3 := Lib.hid ((HRO.out.keep (w' := w3) fun b hb' => hba'.block b hb').mono (Y := (· < w3.heap.size)) fun b hb' => Nat.lt_of_lt_of_le hb' hba'.size)
  have HRA3 := Lib.hid ((HRA.out.keep (w' := w3) fun b hb' => hba'.block b hb').mono (Y := (· < w3.heap.size)) fun b hb' => Nat.lt_of_lt_of_le hb' hba'.size)
  clear hw3
  have k0' : (a.length : Int) = 0 := by omega
  obtain ⟨bbo, ooo, hAo, hXo, hco⟩ := HRO3.out.2 (by simp)
  obtain ⟨e0o, e1o⟩ := hco 0 _ rfl
  have hX2o : bbo < w3.heap.size := hXo
  simp only [Nat.zero_mul, Nat.add_zero] at e0o e1o
  subst hAo
  clear hco
  go_wp2
  go_region_held3 (fun W => W.cell? ⟨bbo, ooo, none⟩ = some (.int .u8 (10 : UInt8).toNat) ∧ W.cell? ⟨bbo, ooo + 1, none⟩ = some (.int .u8 v.toNat)) (go_keep)
    ((go_at_call 92; refine (xone_any 10 _).mono ?_; rintro e w4 ⟨rfl, hbo⟩
      have g0o := (hbo.cell (p := ⟨bbo, ooo, none⟩) hX2o).trans e0o
      have g1o := (hbo.cell (p := ⟨bbo, ooo + 1, none⟩) hX2o).trans e1o))
  have hbo' : Below w3.heap.size w3 w4 := ⟨hbo.os, hbo.tape, hbo.output, hbo.size, hbo.block⟩
  have hc4 := hc3.trans (hbo'.mono hc3.size)
  have HRO4 := Lib.hid ((HRO3.out.keep (w' := w4) fun b hb' => hbo'.block b hb').mono (Y := (· < w4.heap.size)) fun b hb' => Nat.lt_of_lt_of_le hb' hbo'.size)
  have HRA4 := Lib.hid ((HRA3.out.keep (w' := w4) fun b hb' => hbo'.block b hb').mono (Y := (· < w4.heap.size)) fun b hb' => Nat.lt_of_lt_of_le hb' hbo'.size)
  go_wp2_with fail
  refine (rangesText_any _ _ _ _ _ HRO4.out (by first | omega | simp)).mono ?_
  rintro e w5 ⟨rfl, b5⟩
  have hq1 := rangesT_len [(10, v)]
  have hq2 : (rangesT [(10, v)]).length ≤ 2000 := by first | omega | (simp at hq1; omega)
  have hq3 : (⟨(rangesT [(10, v)]).toArray⟩ : ByteArray).size ≤ 2000 := hq2
  clear hq1
  go_wp2
  go_ret
  exact ⟨congrArg (fun s => Ending.returned (.string s)) (str94 _), hc4.trans (b5.mono hc4.size)⟩

set_option maxHeartbeats 1000000 in
set_option maxRecDepth 100000 in
theorem setText_C_f1b1 (A : Option Addr) (n c : Nat) (rs a o : List (UInt8 × UInt8)) (w : World) (hr : RgAt w (· < w.heap.size) A n rs) (hn : n ≤ maxLen) (ha : rangesL rs false = a) (ho : rangesL rs true = o) (h4 : a.length ≤ 256) (h5 : o.length ≤ 256) (hal0 : a.length ≠ 1) (v : UInt8) (hox : o = [(10, v)]) (hu : ¬ ((v.toNat : Nat) : Int) = 10) (k0 : a.length ≠ 0) :
    Calls Try.prog 58 #[.slice A n c] w fun e w' => e = .returned (.string ⟨([91, 94] ++ rangesT [(10, v)] ++ [93]).toArray⟩) ∧ Below w.heap.size w w' := by
  have H1 := Lib.hid (fun W (h : RgAt W (· < W.heap.size) A n rs) => ranges_any A n c rs false W h hn)
  have H2 := Lib.hid (fun W (h : RgAt W (· < W.heap.size) A n rs) => ranges_any A n c rs true W h hn)
  rw [ha] at H1
  rw [ho] at H2
  clear ha ho
  have _ := h4
  have _ := h5
  have _ := hal0
  go_enter Try.func58, Try.ntmps58
  go_wp2_with fail
  refine (H1.out _ hr).mono ?_
  rintro e w1 ⟨v1, rfl, hown1, b1⟩
  go_wp2_with fail
  have hr1 : RgAt w1 (· < w1.heap.size) A n rs := (hr.keep (w' := w1) fun b hb => b1.block b hb).mono fun b hb => Nat.lt_of_lt_of_le hb b1.size
  refine (H2.out _ hr1).mono ?_
  rintro e w2 ⟨v2, rfl, hown2, b2⟩
  obtain ⟨A1, c1, rfl, hm1, hra⟩ := rg_up hown1 b2
  obtain ⟨A2, c2, rfl, hm2, hro⟩ := rg_up hown2 (Below.refl _ w2)
  have hb := b1.trans (b2.mono b1.size)
  have HRA := Lib.hid hra
  have HRO := Lib.hid hro
  clear hr hr1 H1 H2 hown1 hown2 b1 b2 hra hro
  subst hox
  have hal : ¬ (a.length : Int) = 1 := by omega
  have hale : ((a.length : Int) == 1) = false := by simpa using hal
  go_wp2
  go_region
  have hba' : Below w2.heap.size w2 w2.drew := ⟨rfl, rfl, rfl, Nat.le_refl _, fun _ _ => rfl⟩
  obtain ⟨w3, hw3⟩ : ∃ w3, w3 = w2.drew := ⟨_, rfl⟩
  rw [← hw3] at hba' ⊢
  have hc3 := hb.trans (hba'.mono hb.size)
  have HRO3 := Lib.hid ((HRO.out.keep (w' := w3) fun b hb' => hba'.block b hb').mono (Y := (· < w3.heap.size)) fun b hb' => Nat.lt_of_lt_of_le hb' hba'.size)
  have HRA3 := Lib.hid ((HRA.out.keep (w' := w3) fun b hb' => hba'.block b hb').mono (Y := (· < w3.heap.size)) fun b hb' => Nat.lt_of_lt_of_le hb' hba'.size)
  clear hw3
  have k0' : ¬ (a.length : Int) = 0 := by omega
  have k1 : (1 : Int) < (a.length : Int) := by omega
  obtain ⟨bbo, ooo, hAo, hXo, hco⟩ := HRO3.out.2 (by simp)
  obtain ⟨e0o, e1o⟩ := hco 0 _ rfl
  have hX2o : bbo < w3.heap.size := hXo
  simp only [Nat.zero_mul, Nat.add_zero] at e0o e1o
  subst hAo
  clear hco
  go_wp2
  go_region_held3 (fun W => W.cell? ⟨bbo, ooo, none⟩ = some (.int .u8 (10 : UInt8).toNat) ∧ W.cell? ⟨bbo, ooo + 1, none⟩ = some (.int .u8 v.toNat)) (go_keep)
    ((go_at_call 92; refine (xone_any 10 _).mono ?_; rintro e w4 ⟨rfl, hbo⟩
      have g0o := (hbo.cell (p := ⟨bbo, ooo, none⟩) hX2o).trans e0o
      have g1o := (hbo.cell (p := ⟨bbo, ooo + 1, none⟩) hX2o).trans e1o))
  have hbo' : Below w3.heap.size w3 w4 := ⟨hbo.os, hbo.tape, hbo.output, hbo.size, hbo.block⟩
  have hc4 := hc3.trans (hbo'.mono hc3.size)
  have HRO4 := Lib.hid ((HRO3.out.keep (w' := w4) fun b hb' => hbo'.block b hb').mono (Y := (· < w4.heap.size)) fun b hb' => Nat.lt_of_lt_of_le hb' hbo'.size)
  have HRA4 := Lib.hid ((HRA3.out.keep (w' := w4) fun b hb' => hbo'.block b hb').mono (Y := (· < w4.heap.size)) fun b hb' => Nat.lt_of_lt_of_le hb' hbo'.size)
  go_wp2_with fail
  refine (rangesText_any _ _ _ _ _ HRO4.out (by first | omega | simp)).mono ?_
  rintro e w5 ⟨rfl, b5⟩
  have hq1 := rangesT_len [(10, v)]
  have hq2 : (rangesT [(10, v)]).length ≤ 2000 := by first | omega | (simp at hq1; omega)
  have hq3 : (⟨(rangesT [(10, v)]).toArray⟩ : ByteArray).size ≤ 2000 := hq2
  clear hq1
  go_wp2
  go_ret
  exact ⟨congrArg (fun s => Ending.returned (.string s)) (str94 _), hc4.trans (b5.mono hc4.size)⟩

set_option maxHeartbeats 1000000 in
set_option maxRecDepth 100000 in
theorem setText_C_f20 (A : Option Addr) (n c : Nat) (rs a o : List (UInt8 × UInt8)) (w : World) (hr : RgAt w (· < w.heap.size) A n rs) (hn : n ≤ maxLen) (ha : rangesL rs false = a) (ho : rangesL rs true = o) (h4 : a.length ≤ 256) (h5 : o.length ≤ 256) (hal0 : a.length ≠ 1) (hol0 : o.length ≠ 1) (k0 : a.length = 0) :
    Calls Try.prog 58 #[.slice A n c] w fun e w' => e = .returned (.string ⟨([91, 94] ++ rangesT o ++ [93]).toArray⟩) ∧ Below w.heap.size w w' := by
  have H1 := Lib.hid (fun W (h : RgAt W (· < W.heap.size) A n rs) => ranges_any A n c rs false W h hn)
  have H2 := Lib.hid (fun W (h : RgAt W (· < W.heap.size) A n rs) => ranges_any A n c rs true W h hn)
  rw [ha] at H1
  rw [ho] at H2
  clear ha ho
  have _ := h4
  have _ := h5
  have _ := hal0
  have _ := hol0
  go_enter Try.func58, Try.ntmps58
  go_wp2_with fail
  refine (H1.out _ hr).mono ?_
  rintro e w1 ⟨v1, rfl, hown1, b1⟩
  go_wp2_with fail
  have hr1 : RgAt w1 (· < w1.heap.size) A n rs := (hr.keep (w' := w1) fun b hb => b1.block b hb).mono fun b hb => Nat.lt_of_lt_of_le hb b1.size
  refine (H2.out _ hr1).mono ?_
  rintro e w2 ⟨v2, rfl, hown2, b2⟩
  obtain ⟨A1, c1, rfl, hm1, hra⟩ := rg_up hown1 b2
  obtain ⟨A2, c2, rfl, hm2, hro⟩ := rg_up hown2 (Below.refl _ w2)
  have hb := b1.trans (b2.mono b1.size)
  have HRA := Lib.hid hra
  have HRO := Lib.hid hro
  clear hr hr1 H1 H2 hown1 hown2 b1 b2 hra hro
  have hal : ¬ (a.length : Int) = 1 := by omega
  have hale : ((a.length : Int) == 1) = false := by simpa using hal
  go_wp2
  go_region
  have hba' : Below w2.heap.size w2 w2.drew := ⟨rfl, rfl, rfl, Nat.le_refl _, fun _ _ => rfl⟩
  obtain ⟨w3, hw3⟩ : ∃ w3, w3 = w2.drew := ⟨_, rfl⟩
  rw [← hw3] at hba' ⊢
  have hc3 := hb.trans (hba'.mono hb.size)
  have HRO3 := Lib.hid ((HRO.out.keep (w' := w3) fun b hb' => hba'.block b hb').mono (Y := (· < w3.heap.size)) fun b hb' => Nat.lt_of_lt_of_le hb' hba'.size)
  have HRA3 := Lib.hid ((HRA.out.keep (w' := w3) fun b hb' => hba'.block b hb').mono (Y := (· < w3.heap.size)) fun b hb' => Nat.lt_of_lt_of_le hb' hba'.size)
  clear hw3
  have k0' : (a.length : Int) = 0 := by omega
  have hol : ¬ (o.length : Int) = 1 := by omega
  have hole : ((o.length : Int) == 1) = false := by simpa using hol
  go_wp2
  go_region
  have hbo' : Below w3.heap.size w3 w3.drew := ⟨rfl, rfl, rfl, Nat.le_refl _, fun _ _ => rfl⟩
  obtain ⟨w4, hw4⟩ : ∃ w4, w4 = w3.drew := ⟨_, rfl⟩
  rw [← hw4] at hbo' ⊢
  have hc4 := hc3.trans (hbo'.mono hc3.size)
  clear hw4
  have HRO4 := Lib.hid ((HRO3.out.keep (w' := w4) fun b hb' => hbo'.block b hb').mono (Y := (· < w4.heap.size)) fun b hb' => Nat.lt_of_lt_of_le hb' hbo'.size)
  have HRA4 := Lib.hid ((HRA3.out.keep (w' := w4) fun b hb' => hbo'.block b hb').mono (Y := (· < w4.heap.size)) fun b hb' => Nat.lt_of_lt_of_le hb' hbo'.size)
  go_wp2_with fail
  refine (rangesText_any _ _ _ _ _ HRO4.out (by first | omega | simp)).mono ?_
  rintro e w5 ⟨rfl, b5⟩
  have hq1 := rangesT_len o
  have hq2 : (rangesT o).length ≤ 2000 := by first | omega | (simp at hq1; omega)
  have hq3 : (⟨(rangesT o).toArray⟩ : ByteArray).size ≤ 2000 := hq2
  clear hq1
  go_wp2
  go_ret
  exact ⟨congrArg (fun s => Ending.returned (.string s)) (str94 _), hc4.trans (b5.mono hc4.size)⟩

set_option maxHeartbeats 1000000 in
set_option maxRecDepth 100000 in
theorem setText_C_f21 (A : Option Addr) (n c : Nat) (rs a o : List (UInt8 × UInt8)) (w : World) (hr : RgAt w (· < w.heap.size) A n rs) (hn : n ≤ maxLen) (ha : rangesL rs false = a) (ho : rangesL rs true = o) (h4 : a.length ≤ 256) (h5 : o.length ≤ 256) (hal0 : a.length ≠ 1) (hol0 : o.length ≠ 1) (k0 : a.length ≠ 0) (k1 : 0 < o.length) (k2 : o.length < a.length) :
    Calls Try.prog 58 #[.slice A n c] w fun e w' => e = .returned (.string ⟨([91, 94] ++ rangesT o ++ [93]).toArray⟩) ∧ Below w.heap.size w w' := by
  have H1 := Lib.hid (fun W (h : RgAt W (· < W.heap.size) A n rs) => ranges_any A n c rs false W h hn)
  have H2 := Lib.hid (fun W (h : RgAt W (· < W.heap.size) A n rs) => ranges_any A n c rs true W h hn)
  rw [ha] at H1
  rw [ho] at H2
  clear ha ho
  have _ := h4
  have _ := h5
  have _ := hal0
  have _ := hol0
  go_enter Try.func58, Try.ntmps58
  go_wp2_with fail
  refine (H1.out _ hr).mono ?_
  rintro e w1 ⟨v1, rfl, hown1, b1⟩
  go_wp2_with fail
  have hr1 : RgAt w1 (· < w1.heap.size) A n rs := (hr.keep (w' := w1) fun b hb => b1.block b hb).mono fun b hb => Nat.lt_of_lt_of_le hb b1.size
  refine (H2.out _ hr1).mono ?_
  rintro e w2 ⟨v2, rfl, hown2, b2⟩
  obtain ⟨A1, c1, rfl, hm1, hra⟩ := rg_up hown1 b2
  obtain ⟨A2, c2, rfl, hm2, hro⟩ := rg_up hown2 (Below.refl _ w2)
  have hb := b1.trans (b2.mono b1.size)
  have HRA := Lib.hid hra
  have HRO := Lib.hid hro
  clear hr hr1 H1 H2 hown1 hown2 b1 b2 hra hro
  have hal : ¬ (a.length : Int) = 1 := by omega
  have hale : ((a.length : Int) == 1) = false := by simpa using hal
  go_wp2
  go_region
  have hba' : Below w2.heap.size w2 w2.drew := ⟨rfl, rfl, rfl, Nat.le_refl _, fun _ _ => rfl⟩
  obtain ⟨w3, hw3⟩ : ∃ w3, w3 = w2.drew := ⟨_, rfl⟩
  rw [← hw3] at hba' ⊢
  have hc3 := hb.trans (hba'.mono hb.size)
  have HRO3 := Lib.hid ((HRO.out.keep (w' := w3) fun b hb' => hba'.block b hb').mono (Y := (· < w3.heap.size)) fun b hb' => Nat.lt_of_lt_of_le hb' hba'.size)
  have HRA3 := Lib.hid ((HRA.out.keep (w' := w3) fun b hb' => hba'.block b hb').mono (Y := (· < w3.heap.size)) fun b hb' => Nat.lt_of_lt_of_le hb' hba'.size)
  clear hw3
  have k0' : ¬ (a.length : Int) = 0 := by omega
  have k1' : (0 : Int) < (o.length : Int) := by omega
  have k2' : (o.length : Int) < (a.length : Int) := by omega
  have hol : ¬ (o.length : Int) = 1 := by omega
  have hole : ((o.length : Int) == 1) = false := by simpa using hol
  go_wp2
  go_region
  have hbo' : Below w3.heap.size w3 w3.drew := ⟨rfl, rfl, rfl, Nat.le_refl _, fun _ _ => rfl⟩
  obtain ⟨w4, hw4⟩ : ∃ w4, w4 = w3.drew := ⟨_, rfl⟩
  rw [← hw4] at hbo' ⊢
  have hc4 := hc3.trans (hbo'.mono hc3.size)
  clear hw4
  have HRO4 := Lib.hid ((HRO3.out.keep (w' := w4) fun b hb' => hbo'.block b hb').mono (Y := (· < w4.heap.size)) fun b hb' => Nat.lt_of_lt_of_le hb' hbo'.size)
  have HRA4 := Lib.hid ((HRA3.out.keep (w' := w4) fun b hb' => hbo'.block b hb').mono (Y := (· < w4.heap.size)) fun b hb' => Nat.lt_of_lt_of_le hb' hbo'.size)
  go_wp2_with fail
  refine (rangesText_any _ _ _ _ _ HRO4.out (by first | omega | simp)).mono ?_
  rintro e w5 ⟨rfl, b5⟩
  have hq1 := rangesT_len o
  have hq2 : (rangesT o).length ≤ 2000 := by first | omega | (simp at hq1; omega)
  have hq3 : (⟨(rangesT o).toArray⟩ : ByteArray).size ≤ 2000 := hq2
  clear hq1
  go_wp2
  go_ret
  exact ⟨congrArg (fun s => Ending.returned (.string s)) (str94 _), hc4.trans (b5.mono hc4.size)⟩

set_option maxHeartbeats 1000000 in
set_option maxRecDepth 100000 in
theorem setText_C_f22 (A : Option Addr) (n c : Nat) (rs a o : List (UInt8 × UInt8)) (w : World) (hr : RgAt w (· < w.heap.size) A n rs) (hn : n ≤ maxLen) (ha : rangesL rs false = a) (ho : rangesL rs true = o) (h4 : a.length ≤ 256) (h5 : o.length ≤ 256) (hal0 : a.length ≠ 1) (hol0 : o.length ≠ 1) (k0 : a.length ≠ 0) (k1 : 0 < o.length) (k2 : ¬ o.length < a.length) :
    Calls Try.prog 58 #[.slice A n c] w fun e w' => e = .returned (.string ⟨([91] ++ rangesT a ++ [93]).toArray⟩) ∧ Below w.heap.size w w' := by
  have H1 := Lib.hid (fun W (h : RgAt W (· < W.heap.size) A n rs) => ranges_any A n c rs false W h hn)
  have H2 := Lib.hid (fun W (h : RgAt W (· < W.heap.size) A n rs) => ranges_any A n c rs true W h hn)
  rw [ha] at H1
  rw [ho] at H2
  clear ha ho
  have _ := h4
  have _ := h5
  have _ := hal0
  have _ := hol0
  go_enter Try.func58, Try.ntmps58
  go_wp2_with fail
  refine (H1.out _ hr).mono ?_
  rintro e w1 ⟨v1, rfl, hown1, b1⟩
  go_wp2_with fail
  have hr1 : RgAt w1 (· < w1.heap.size) A n rs := (hr.keep (w' := w1) fun b hb => b1.block b hb).mono fun b hb => Nat.lt_of_lt_of_le hb b1.size
  refine (H2.out _ hr1).mono ?_
  rintro e w2 ⟨v2, rfl, hown2, b2⟩
  obtain ⟨A1, c1, rfl, hm1, hra⟩ := rg_up hown1 b2
  obtain ⟨A2, c2, rfl, hm2, hro⟩ := rg_up hown2 (Below.refl _ w2)
  have hb := b1.trans (b2.mono b1.size)
  have HRA := Lib.hid hra
  have HRO := Lib.hid hro
  clear hr hr1 H1 H2 hown1 hown2 b1 b2 hra hro
  have hal : ¬ (a.length : Int) = 1 := by omega
  have hale : ((a.length : Int) == 1) = false := by simpa using hal
  go_wp2
  go_region
  have hba' : Below w2.heap.size w2 w2.drew := ⟨rfl, rfl, rfl, Nat.le_refl _, fun _ _ => rfl⟩
  obtain ⟨w3, hw3⟩ : ∃ w3, w3 = w2.drew := ⟨_, rfl⟩
  rw [← hw3] at hba' ⊢
  have hc3 := hb.trans (hba'.mono hb.size)
  have HRO3 := Lib.hid ((HRO.out.keep (w' := w3) fun b hb' => hba'.block b hb').mono (Y := (· < w3.heap.size)) fun b hb' => Nat.lt_of_lt_of_le hb' hba'.size)
  have HRA3 := Lib.hid ((HRA.out.keep (w' := w3) fun b hb' => hba'.block b hb').mono (Y := (· < w3.heap.size)) fun b hb' => Nat.lt_of_lt_of_le hb' hba'.size)
  clear hw3
  have k0' : ¬ (a.length : Int) = 0 := by omega
  have k1' : (0 : Int) < (o.length : Int) := by omega
  have k2' : ¬ (o.length : Int) < (a.length : Int) := by omega
  have hol : ¬ (o.length : Int) = 1 := by omega
  have hole : ((o.length : Int) == 1) = false := by simpa using hol
  go_wp2
  go_region
  have hbo' : Below w3.heap.size w3 w3.drew := ⟨rfl, rfl, rfl, Nat.le_refl _, fun _ _ => rfl⟩
  obtain ⟨w4, hw4⟩ : ∃ w4, w4 = w3.drew := ⟨_, rfl⟩
  rw [← hw4] at hbo' ⊢
  have hc4 := hc3.trans (hbo'.mono hc3.size)
  clear hw4
  have HRO4 := Lib.hid ((HRO3.out.keep (w' := w4) fun b hb' => hbo'.block b hb').mono (Y := (· < w4.heap.size)) fun b hb' => Nat.lt_of_lt_of_le hb' hbo'.size)
  have HRA4 := Lib.hid ((HRA3.out.keep (w' := w4) fun b hb' => hbo'.block b hb').mono (Y := (· < w4.heap.size)) fun b hb' => Nat.lt_of_lt_of_le hb' hbo'.size)
  go_wp2_with fail
  refine (rangesText_any _ _ _ _ _ HRA4.out (by first | omega | simp)).mono ?_
  rintro e w5 ⟨rfl, b5⟩
  have hq1 := rangesT_len a
  have hq2 : (rangesT a).length ≤ 2000 := by first | omega | (simp at hq1; omega)
  have hq3 : (⟨(rangesT a).toArray⟩ : ByteArray).size ≤ 2000 := hq2
  clear hq1
  go_wp2
  go_ret
  exact ⟨congrArg (fun s => Ending.returned (.string s)) (str91 _), hc4.trans (b5.mono hc4.size)⟩

set_option maxHeartbeats 1000000 in
set_option maxRecDepth 100000 in
theorem setText_C_f23 (A : Option Addr) (n c : Nat) (rs a o : List (UInt8 × UInt8)) (w : World) (hr : RgAt w (· < w.heap.size) A n rs) (hn : n ≤ maxLen) (ha : rangesL rs false = a) (ho : rangesL rs true = o) (h4 : a.length ≤ 256) (h5 : o.length ≤ 256) (hal0 : a.length ≠ 1) (hol0 : o.length ≠ 1) (k0 : a.length ≠ 0) (k1 : o.length = 0) :
    Calls Try.prog 58 #[.slice A n c] w fun e w' => e = .returned (.string ⟨([91] ++ rangesT a ++ [93]).toArray⟩) ∧ Below w.heap.size w w' := by
  have H1 := Lib.hid (fun W (h : RgAt W (· < W.heap.size) A n rs) => ranges_any A n c rs false W h hn)
  have H2 := Lib.hid (fun W (h : RgAt W (· < W.heap.size) A n rs) => ranges_any A n c rs true W h hn)
  rw [ha] at H1
  rw [ho] at H2
  clear ha ho
  have _ := h4
  have _ := h5
  have _ := hal0
  have _ := hol0
  go_enter Try.func58, Try.ntmps58
  go_wp2_with fail
  refine (H1.out _ hr).mono ?_
  rintro e w1 ⟨v1, rfl, hown1, b1⟩
  go_wp2_with fail
  have hr1 : RgAt w1 (· < w1.heap.size) A n rs := (hr.keep (w' := w1) fun b hb => b1.block b hb).mono fun b hb => Nat.lt_of_lt_of_le hb b1.size
  refine (H2.out _ hr1).mono ?_
  rintro e w2 ⟨v2, rfl, hown2, b2⟩
  obtain ⟨A1, c1, rfl, hm1, hra⟩ := rg_up hown1 b2
  obtain ⟨A2, c2, rfl, hm2, hro⟩ := rg_up hown2 (Below.refl _ w2)
  have hb := b1.trans (b2.mono b1.size)
  have HRA := Lib.hid hra
  have HRO := Lib.hid hro
  clear hr hr1 H1 H2 hown1 hown2 b1 b2 hra hro
  have hal : ¬ (a.length : Int) = 1 := by omega
  have hale : ((a.length : Int) == 1) = false := by simpa using hal
  go_wp2
  go_region
  have hba' : Below w2.heap.size w2 w2.drew := ⟨rfl, rfl, rfl, Nat.le_refl _, fun _ _ => rfl⟩
  obtain ⟨w3, hw3⟩ : ∃ w3, w3 = w2.drew := ⟨_, rfl⟩
  rw [← hw3] at hba' ⊢
  have hc3 := hb.trans (hba'.mono hb.size)
  have HRO3 := Lib.hid ((HRO.out.keep (w' := w3) fun b hb' => hba'.block b hb').mono (Y := (· < w3.heap.size)) fun b hb' => Nat.lt_of_lt_of_le hb' hba'.size)
  have HRA3 := Lib.hid ((HRA.out.keep (w' := w3) fun b hb' => hba'.block b hb').mono (Y := (· < w3.heap.size)) fun b hb' => Nat.lt_of_lt_of_le hb' hba'.size)
  clear hw3
  have k0' : ¬ (a.length : Int) = 0 := by omega
  have k1' : (o.length : Int) = 0 := by omega
  have hol : ¬ (o.length : Int) = 1 := by omega
  have hole : ((o.length : Int) == 1) = false := by simpa using hol
  go_wp2
  go_region
  have hbo' : Below w3.heap.size w3 w3.drew := ⟨rfl, rfl, rfl, Nat.le_refl _, fun _ _ => rfl⟩
  obtain ⟨w4, hw4⟩ : ∃ w4, w4 = w3.drew := ⟨_, rfl⟩
  rw [← hw4] at hbo' ⊢
  have hc4 := hc3.trans (hbo'.mono hc3.size)
  clear hw4
  have HRO4 := Lib.hid ((HRO3.out.keep (w' := w4) fun b hb' => hbo'.block b hb').mono (Y := (· < w4.heap.size)) fun b hb' => Nat.lt_of_lt_of_le hb' hbo'.size)
  have HRA4 := Lib.hid ((HRA3.out.keep (w' := w4) fun b hb' => hbo'.block b hb').mono (Y := (· < w4.heap.size)) fun b hb' => Nat.lt_of_lt_of_le hb' hbo'.size)
  go_wp2_with fail
  refine (rangesText_any _ _ _ _ _ HRA4.out (by first | omega | simp)).mono ?_
  rintro e w5 ⟨rfl, b5⟩
  have hq1 := rangesT_len a
  have hq2 : (rangesT a).length ≤ 2000 := by first | omega | (simp at hq1; omega)
  have hq3 : (⟨(rangesT a).toArray⟩ : ByteArray).size ≤ 2000 := hq2
  clear hq1
  go_wp2
  go_ret
  exact ⟨congrArg (fun s => Ending.returned (.string s)) (str91 _), hc4.trans (b5.mono hc4.size)⟩

theorem setText_any (A : Option Addr) (n c : Nat) (rs : List (UInt8 × UInt8)) (w : World) (hr : RgAt w (· < w.heap.size) A n rs) (hn : n ≤ maxLen) :
    Calls Try.prog 58 #[.slice A n c] w fun e w' => e = .returned (.string ⟨(setTx rs).toArray⟩) ∧ Below w.heap.size w w' := by
  have h4 : (rangesL rs false).length ≤ 256 := rgTo_length _ _
  have h5 : (rangesL rs true).length ≤ 256 := rgTo_length _ _
  unfold setTx
  obtain ⟨a, ha⟩ : ∃ a, rangesL rs false = a := ⟨_, rfl⟩
  obtain ⟨o, ho⟩ : ∃ o, rangesL rs true = o := ⟨_, rfl⟩
  rw [ha] at h4
  rw [ho] at h5
  rw [ha, ho]
  have nat10 : ∀ u : UInt8, u ≠ 10 → ¬ ((u.toNat : Nat) : Int) = 10 := fun u hu e => hu (UInt8.toNat_inj.1 (by show u.toNat = 10; omega))
  have tod : o.length ≠ 1 ∨ o = [(10, 10)] ∨ (∃ u v, o = [(u, v)] ∧ u ≠ 10) ∨ (∃ v, o = [(10, v)] ∧ v ≠ 10) := by
    match o with
    | [] => exact .inl (by simp)
    | [(u, v)] =>
      by_cases hu : u = 10
      · by_cases hv : v = 10
        · exact .inr (.inl (by rw [hu, hv]))
        · exact .inr (.inr (.inr ⟨v, by rw [hu], hv⟩))
      · exact .inr (.inr (.inl ⟨u, v, rfl, hu⟩))
    | _ :: _ :: _ => exact .inl (by simp)
  by_cases h1 : a.length = 1
  · obtain ⟨x, y, rfl⟩ : ∃ x y, a = [(x, y)] := by
      match a, h1 with
      | [(x, y)], _ => exact ⟨x, y, rfl⟩
    by_cases hyx : y = x
    · subst hyx
      have e : setT2 [(y, y)] o = letterT sgs y := by simp [setT2, oneR]
      rw [e]
      exact setText_one A n c rs _ o w hr hn ha ho h4 h5 y rfl
    · have hyx' : ¬ ((y.toNat : Nat) : Int) = ((x.toNat : Nat) : Int) := fun e => hyx (UInt8.toNat_inj.1 (by omega))
      rcases tod with h | rfl | ⟨u, v, rfl, hu⟩ | ⟨v, rfl, hv⟩
      · have hne : o ≠ [(10, 10)] := by rintro rfl; exact h rfl
        have e : setT2 [(x, y)] o = [91] ++ rangesT [(x, y)] ++ [93] := by
          unfold setT2
          rw [if_neg (by simp [oneR, hyx]), if_neg hne, if_neg (by simp only [Bool.or_eq_true, Bool.and_eq_true, decide_eq_true_eq, List.length_cons, List.length_nil]; omega)]
        rw [e]
        by_cases k1 : o.length = 0
        · exact setText_B_f20 A n c rs _ o w hr hn ha ho h4 h5 x y rfl hyx' h k1
        · exact setText_B_f21 A n c rs _ o w hr hn ha ho h4 h5 x y rfl hyx' h (by omega)
      · have e : setT2 [(x, y)] [(10, 10)] = [46] := by simp [setT2, oneR, hyx]
        rw [e]
        exact setText_B_dot A n c rs _ _ w hr hn ha ho h4 h5 x y rfl hyx' rfl
      · have e : setT2 [(x, y)] [(u, v)] = [91] ++ rangesT [(x, y)] ++ [93] := by simp [setT2, oneR, hyx, hu]
        rw [e]
        exact setText_B_f1a A n c rs _ _ w hr hn ha ho h4 h5 x y rfl hyx' u v rfl (nat10 u hu)
      · have e : setT2 [(x, y)] [(10, v)] = [91] ++ rangesT [(x, y)] ++ [93] := by simp [setT2, oneR, hyx, hv]
        rw [e]
        exact setText_B_f1b A n c rs _ _ w hr hn ha ho h4 h5 x y rfl hyx' v rfl (nat10 v hv)
  · have hone : oneR a = false := by
      match a, h1 with
      | [], _ => rfl
      | [_], h => exact absurd rfl h
      | _ :: _ :: _, _ => rfl
    rcases tod with h | rfl | ⟨u, v, rfl, hu⟩ | ⟨v, rfl, hv⟩
    · have hne : o ≠ [(10, 10)] := by rintro rfl; exact h rfl
      by_cases k0 : a.length = 0
      · have e : setT2 a o = [91, 94] ++ rangesT o ++ [93] := by simp [setT2, hone, hne, k0]
        rw [e]
        exact setText_C_f20 A n c rs _ _ w hr hn ha ho h4 h5 h1 h k0
      · by_cases k1 : o.length = 0
        · have e : setT2 a o = [91] ++ rangesT a ++ [93] := by simp [setT2, hone, hne, k0, k1]
          rw [e]
          exact setText_C_f23 A n c rs _ _ w hr hn ha ho h4 h5 h1 h k0 k1
        · have k1' : 0 < o.length := by omega
          by_cases k2 : o.length < a.length
          · have e : setT2 a o = [91, 94] ++ rangesT o ++ [93] := by simp [setT2, hone, hne, k0, k1', k2]
            rw [e]
            exact setText_C_f21 A n c rs _ _ w hr hn ha ho h4 h5 h1 h k0 k1' k2
          · have e : setT2 a o = [91] ++ rangesT a ++ [93] := by simp [setT2, hone, hne, k0, k2]
            rw [e]
            exact setText_C_f22 A n c rs _ _ w hr hn ha ho h4 h5 h1 h k0 k1' k2
    · have e : setT2 a [(10, 10)] = [46] := by simp [setT2, hone]
      rw [e]
      exact setText_C_dot A n c rs _ _ w hr hn ha ho h4 h5 h1 rfl
    · have e : setT2 a [(u, v)] = [91, 94] ++ rangesT [(u, v)] ++ [93] := by
        unfold setT2
        rw [if_neg (by rw [hone]; simp), if_neg (by simp [hu]), if_pos (by simp only [Bool.or_eq_true, Bool.and_eq_true, decide_eq_true_eq, List.length_cons, List.length_nil]; omega)]
      rw [e]
      by_cases k0 : a.length = 0
      · exact setText_C_f1a0 A n c rs _ _ w hr hn ha ho h4 h5 h1 u v rfl (nat10 u hu) k0
      · exact setText_C_f1a1 A n c rs _ _ w hr hn ha ho h4 h5 h1 u v rfl (nat10 u hu) k0
    · have e : setT2 a [(10, v)] = [91, 94] ++ rangesT [(10, v)] ++ [93] := by
        unfold setT2
        rw [if_neg (by rw [hone]; simp), if_neg (by simp [hv]), if_pos (by simp only [Bool.or_eq_true, Bool.and_eq_true, decide_eq_true_eq, List.length_cons, List.length_nil]; omega)]
      rw [e]
      by_cases k0 : a.length = 0
      · exact setText_C_f1b0 A n c rs _ _ w hr hn ha ho h4 h5 h1 v rfl (nat10 v hv) k0
      · exact setText_C_f1b1 A n c rs _ _ w hr hn ha ho h4 h5 h1 v rfl (nat10 v hv) k0
end Go.Proofs.Ytjnhmcgjeljcmaa
