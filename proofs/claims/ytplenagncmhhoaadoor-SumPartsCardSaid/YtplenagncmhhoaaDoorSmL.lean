/- The reader of a report: next, take, named, result. -/
import Derived.Test.YtplenagncmhhoaaDoorSmK
namespace Go.Proofs.YtplenagncmhhoaaDoor
open Go.RowKit

/-- The longest length that a slice may have is known. -/
structure MaxAt (w : World) : Prop where
  cell : ∃ m : Int, w.cell? ⟨1, 0, none⟩ = some (.int .i64 m)
  lt : 1 < w.heap.size
theorem MaxAt.below {B : Nat} {w w' : World} (h : MaxAt w) (hb : Below B w w') (hB : 1 < B) : MaxAt w' := by
  obtain ⟨m, hm⟩ := h.cell
  exact ⟨⟨m, (World.cell?_of_block (a := ⟨1, 0, none⟩) (hb.block 1 hB)).trans hm⟩, Nat.lt_of_lt_of_le h.lt hb.size⟩
theorem MaxAt.grown {r : Option Nat} {w w' : World} (h : MaxAt w) (hb : w.grownBy w' r) (hr : some 1 ≠ r) : MaxAt w' := by
  obtain ⟨m, hm⟩ := h.cell
  exact ⟨⟨m, (World.cell?_of_block (a := ⟨1, 0, none⟩) (hb.block 1 h.lt hr)).trans hm⟩, Nat.lt_of_lt_of_le h.lt hb.size⟩
theorem MaxAt.drewN {w : World} (h : MaxAt w) (n : Nat) : MaxAt (w.drewN n) := ⟨h.cell, h.lt⟩
theorem MaxAt.alloc {w : World} (h : MaxAt w) (o : Obj) : MaxAt (w.alloc o) := by
  obtain ⟨m, hm⟩ := h.cell
  exact ⟨⟨m, (World.cell?_of_block (a := ⟨1, 0, none⟩) (Below.heap_alloc w o 1 h.lt)).trans hm⟩, by simp; have := h.lt; omega⟩
/-- What is left of the text: whole lines, and what is behind them. -/
structure Fine (ls : List Ln) (t : Ln) (at_ : Nat) : Prop where
  no10 : ∀ l, l ∈ ls → (10 : UInt8) ∉ l
  t10 : (10 : UInt8) ∉ t
  len : (flat ls ++ t).length ≤ 4000000000
  cnt : at_ + ls.length ≤ 1000000
theorem Fine.tail {l : Ln} {r : List Ln} {t : Ln} {k : Nat} (h : Fine (l :: r) t k) : Fine r t (k + 1) := by
  refine ⟨fun x hx => h.no10 x (List.mem_cons_of_mem _ hx), h.t10, ?_, ?_⟩
  · have := h.len
    have e : flat (l :: r) = l ++ 10 :: flat r := by simp [flat]
    rw [e] at this
    simp at this ⊢
    omega
  · have := h.cnt
    simp at this
    omega
def RdS (w : World) (rp : Nat) (ls : List Ln) (t : Ln) (k : Nat) : Prop := Blk w rp 81 #[.string ⟨(flat ls ++ t).toArray⟩, .int .i64 (k : Nat)]
def nxt (ls : List Ln) (t : Ln) : ByteArray := ⟨(ls.headD t).toArray⟩
theorem gb_of_drewN (w : World) (n : Nat) (row : Option Nat) : w.grownBy (w.drewN n) row := gb_drewN (gb_refl w row) n
set_option maxHeartbeats 1000000 in
theorem next_any {w : World} {rp : Nat} {ls : List Ln} {t : Ln} {k : Nat} (h : RdS w rp ls t k) (hf : Fine ls t k) (hm : MaxAt w) :
    Calls Tryd.prog 83 #[.pointer (some ⟨rp, 0, none⟩)] w fun e w' => e = .returned (.tuple #[.string (nxt ls t), .bool (!ls.isEmpty)]) ∧ ∃ n, w' = w.drewN n := by
  obtain ⟨m, hmm⟩ := hm.cell
  obtain ⟨q0, q1, _, _⟩ := blk2 h
  have hlt := h.lt
  have hsz : (⟨(flat ls ++ t).toArray⟩ : ByteArray).size < 4294967281 := by rw [size_mk]; have := hf.len; omega
  have hcut := cut_flat ls t hf.no10 hf.t10
  obtain ⟨S, hS⟩ : ∃ S : ByteArray, S = ⟨(flat ls ++ t).toArray⟩ := ⟨_, rfl⟩
  have hSd : S.data.toList = flat ls ++ t := by rw [hS]
  rw [← hS] at q0 hsz
  have HC := Lib.hid (Tryd.strings_Cut S ⟨#[10]⟩ m w hsz hmm)
  rw [hSd, show (⟨#[10]⟩ : ByteArray).data.toList = [10] from rfl, hcut] at HC
  clear hmm hcut hS hSd h hf hm hsz
  cases ls with
  | nil =>
    go_enter Tryd.func83, Tryd.ntmps83
    go_wp2_with fail
    refine HC.out.mono ?_
    rintro e w' ⟨rfl, n, rfl⟩
    go_wp2
    go_ret2
    exact ⟨rfl, n, rfl⟩
  | cons l r =>
    go_enter Tryd.func83, Tryd.ntmps83
    go_wp2_with fail
    refine HC.out.mono ?_
    rintro e w' ⟨rfl, n, rfl⟩
    go_wp2
    go_ret2
    exact ⟨rfl, n, rfl⟩
set_option maxHeartbeats 1000000 in
theorem take_any {w : World} {rp : Nat} {l : Ln} {r : List Ln} {t : Ln} {k : Nat} (h : RdS w rp (l :: r) t k) (hf : Fine (l :: r) t k) (hm : MaxAt w) :
    Calls Tryd.prog 84 #[.pointer (some ⟨rp, 0, none⟩)] w fun e w' => e = .returned (.tuple #[]) ∧ RdS w' rp r t (k + 1) ∧ w.grownBy w' (some rp) := by
  obtain ⟨m, hmm⟩ := hm.cell
  obtain ⟨q0, q1, q2, q3⟩ := blk2 h
  have hlt := h.lt
  have hsz : (⟨(flat (l :: r) ++ t).toArray⟩ : ByteArray).size < 4294967281 := by rw [size_mk]; have := hf.len; omega
  have hcut := cut_flat (l :: r) t hf.no10 hf.t10
  have hw : IntKind.i64.wrap ((k : Int) + 1) = (k : Int) + 1 := IntWalk.i64_in _ (by have := hf.cnt; omega)
  obtain ⟨S, hS⟩ : ∃ S : ByteArray, S = ⟨(flat (l :: r) ++ t).toArray⟩ := ⟨_, rfl⟩
  have hSd : S.data.toList = flat (l :: r) ++ t := by rw [hS]
  have H := Lib.hid h
  rw [← hS] at q0 hsz
  have HC := Lib.hid (Tryd.strings_Cut S ⟨#[10]⟩ m w hsz hmm)
  rw [hSd, show (⟨#[10]⟩ : ByteArray).data.toList = [10] from rfl, hcut] at HC
  clear hmm hcut hS hSd h hf hm hsz
  obtain ⟨R, hR⟩ : ∃ R : ByteArray, R = ⟨(flat r ++ t).toArray⟩ := ⟨_, rfl⟩
  simp only at HC
  rw [← hR] at HC
  have HR := Lib.hid hR
  clear hR
  go_enter Tryd.func84, Tryd.ntmps84
  go_wp2_with fail
  refine HC.out.mono ?_
  rintro e w' ⟨rfl, n, rfl⟩
  go_wp2
  go_end0
  refine ⟨rfl, ?_, ?_⟩
  · unfold RdS
    rw [← HR.out]
    exact (((show Blk w rp 81 _ from H.out).drewN n).set_ 0 _).set_ 1 _
  · exact gb_set (g := rp) (p := ⟨rp, 1, none⟩) (gb_set (g := rp) (p := ⟨rp, 0, none⟩) (gb_of_drewN w n _) (.inl rfl) _) (.inl rfl) _
theorem RdS.drewN {w : World} {rp : Nat} {ls : List Ln} {t : Ln} {k : Nat} (h : RdS w rp ls t k) (n : Nat) : RdS (w.drewN n) rp ls t k := h
theorem RdS.below {w w' : World} {B rp : Nat} {ls : List Ln} {t : Ln} {k : Nat} (h : RdS w rp ls t k) (hb : Below B w w') (hB : rp < B) : RdS w' rp ls t k := Blk.below h hb hB
theorem line_bound {ls : List Ln} {t : Ln} {k : Nat} (h : Fine ls t k) : (nxt ls t).size ≤ 4000000000 := by
  unfold nxt
  rw [size_mk]
  have := h.len
  cases ls with
  | nil => simpa [flat] using this
  | cons l r =>
    have e : flat (l :: r) = l ++ 10 :: flat r := by simp [flat]
    rw [e] at this
    simp at this ⊢
    omega
theorem trim_len (l w : Ln) : (Lib.trimPrefix l w).length ≤ l.length := by
  unfold Lib.trimPrefix
  split
  · simp
  · exact Nat.le_refl _
theorem cutB_len : ∀ l : Ln, (cutB l).length ≤ l.length
  | [] => by unfold cutB; rw [cut_nil]; simp
  | c :: l => by
    have ih := cutB_len l
    unfold cutB at ih ⊢
    cases hp : ([58, 32] : Ln).isPrefixOf (c :: l) with
    | true =>
      rw [cut_here _ _ hp (by simp)]
      simp; omega
    | false =>
      rw [cut_on _ _ _ hp]
      split
      · simp; omega
      · simp
set_option maxHeartbeats 2000000 in
/-- A line of these words and a name is taken. -/
theorem named_yes_any {w : World} {rp : Nat} {l : Ln} {r : List Ln} {t : Ln} {k : Nat} {wd n : Ln} (h : RdS w rp (l :: r) t k) (hf : Fine (l :: r) t k) (hm : MaxAt w) (hn : namedP rdN wd l = some n) :
    Calls Tryd.prog 81 #[.pointer (some ⟨rp, 0, none⟩), .string ⟨wd.toArray⟩] w fun e w' => e = .returned (.tuple #[.string ⟨n.toArray⟩, .bool true]) ∧ RdS w' rp r t (k + 1) ∧ w.grownBy w' (some rp) := by
  rcases named_cases wd l with ⟨n', h1, h2, _, h4, h5⟩ | ⟨h1, _⟩
  rotate_left
  · rw [hn] at h1; cases h1
  rw [hn] at h1
  injection h1 with h1
  subst h1
  have hbd := line_bound hf
  have hbl : (nxt (l :: r) t).size = l.length := size_mk l
  have HNX := Lib.hid (next_any h hf hm)
  obtain ⟨L, hL⟩ : ∃ L : ByteArray, L = nxt (l :: r) t := ⟨_, rfl⟩
  have hLd : L.data.toList = l := by rw [hL]; rfl
  rw [← hL] at HNX
  obtain ⟨TP, hTP⟩ : ∃ TP : ByteArray, TP = ⟨(Lib.trimPrefix l wd).toArray⟩ := ⟨_, rfl⟩
  obtain ⟨WD, hWD⟩ : ∃ WD : ByteArray, WD = ⟨wd.toArray⟩ := ⟨_, rfl⟩
  have hWd : WD.data.toList = wd := by rw [hWD]
  have HCP := Lib.hid (fun W => Tryd.strings_CutPrefix L WD W)
  rw [hLd, hWd, h2, ← hTP] at HCP
  rw [← hTP] at h4 h5
  have htl : TP.size ≤ 4000000000 := by rw [hTP, size_mk]; have := trim_len l wd; omega
  have HRD := Lib.hid (fun W => read21 TP W (by unfold maxLen; omega))
  rw [h4, h5] at HRD
  rw [← hWD]
  have HTK := Lib.hid (fun (W : World) (a : RdS W rp (l :: r) t k) (b : MaxAt W) => take_any a hf b)
  have H := Lib.hid h
  have HM := Lib.hid hm
  obtain ⟨NM, hNM⟩ : ∃ NM : ByteArray, NM = ⟨n.toArray⟩ := ⟨_, rfl⟩
  rw [← hNM] at HRD ⊢
  have hlt := h.lt
  have hm1 := hm.lt
  clear h hm hL hLd hTP hWD hWd h2 h4 h5 hbd hbl hn hNM htl hf
  go_enter Tryd.func81, Tryd.ntmps81
  go_wp2_with fail
  refine HNX.out.mono ?_
  rintro e w1 ⟨rfl, n1, rfl⟩
  go_wp2_with fail
  refine (HCP.out _).mono ?_
  rintro e w2 ⟨rfl, rfl⟩
  go_wp2_with fail
  refine (HRD.out _).mono ?_
  rintro e w3 ⟨rfl, b3⟩
  have H3 := Lib.hid ((H.out.drewN n1).below b3 hlt)
  have HM3 := Lib.hid ((HM.out.drewN n1).below b3 hm1)
  have HG3 := Lib.hid (gb_trans (gb_of_drewN w n1 (some rp)) (gb_below b3 (some rp)))
  clear b3
  go_wp2_with fail
  refine (HTK.out _ H3.out HM3.out).mono ?_
  rintro e w4 ⟨rfl, r4, g4⟩
  have HG4 := Lib.hid (gb_trans HG3.out g4)
  have R4 := Lib.hid r4
  clear r4 g4
  go_wp2
  go_ret2
  exact ⟨rfl, R4.out, HG4.out⟩
set_option maxHeartbeats 2000000 in
/-- A line of other words, or of none, stays. -/
theorem named_no_any {w : World} {rp : Nat} {ls : List Ln} {t : Ln} {k : Nat} {wd : Ln} (h : RdS w rp ls t k) (hf : Fine ls t k) (hm : MaxAt w) (hn : ∀ l, ls.head? = some l → namedP rdN wd l = none) :
    Calls Tryd.prog 81 #[.pointer (some ⟨rp, 0, none⟩), .string ⟨wd.toArray⟩] w fun e w' => e = .returned (.tuple #[.string ⟨#[]⟩, .bool false]) ∧ RdS w' rp ls t k ∧ w.grownBy w' (some rp) := by
  have hbd := line_bound hf
  obtain ⟨l, hl⟩ : ∃ l, l = ls.headD t := ⟨_, rfl⟩
  have hbl : (nxt ls t).size = l.length := by rw [hl]; exact size_mk _
  have hno : (!ls.isEmpty) = false ∨ Lib.hasPrefix l wd = false ∨ readB ⟨(Lib.trimPrefix l wd).toArray⟩ = false := by
    cases ls with
    | nil => exact .inl rfl
    | cons x r =>
      obtain rfl : l = x := hl
      rcases named_cases wd l with ⟨n', h1, _⟩ | ⟨_, h2⟩
      · rw [hn l rfl] at h1; cases h1
      · exact .inr h2
  have HNX := Lib.hid (next_any h hf hm)
  obtain ⟨L, hL⟩ : ∃ L : ByteArray, L = nxt ls t := ⟨_, rfl⟩
  have hLd : L.data.toList = l := by rw [hL, hl]; rfl
  rw [← hL] at HNX
  obtain ⟨TP, hTP⟩ : ∃ TP : ByteArray, TP = ⟨(Lib.trimPrefix l wd).toArray⟩ := ⟨_, rfl⟩
  obtain ⟨WD, hWD⟩ : ∃ WD : ByteArray, WD = ⟨wd.toArray⟩ := ⟨_, rfl⟩
  have hWd : WD.data.toList = wd := by rw [hWD]
  have HCP := Lib.hid (fun W => Tryd.strings_CutPrefix L WD W)
  rw [hLd, hWd, ← hTP] at HCP
  rw [← hTP] at hno
  have htl : TP.size ≤ 4000000000 := by rw [hTP, size_mk]; have := trim_len l wd; omega
  have HRD := Lib.hid (fun W => read21 TP W (by unfold maxLen; omega))
  rw [← hWD]
  have H := Lib.hid h
  obtain ⟨NM, hNM⟩ : ∃ NM : ByteArray, NM = ⟨(readS TP).toArray⟩ := ⟨_, rfl⟩
  rw [← hNM] at HRD
  generalize (!ls.isEmpty) = B1 at HNX hno
  generalize Lib.hasPrefix l wd = B2 at HCP hno
  generalize readB TP = B3 at HRD hno
  have hlt := h.lt
  clear h hm hL hLd hTP hWD hWd hbd hbl hn hNM htl hf hl
  have key : ∀ b1 b2 b3 : Bool, (b1 = false ∨ b2 = false ∨ b3 = false) → (b1 = false) ∨ (b1 = true ∧ b2 = false) ∨ (b1 = true ∧ b2 = true ∧ b3 = false) := by decide
  rcases key _ _ _ hno with rfl | ⟨rfl, rfl⟩ | ⟨rfl, rfl, rfl⟩
  all_goals
    clear hno key
    go_enter Tryd.func81, Tryd.ntmps81
    go_wp2_with fail
    refine HNX.out.mono ?_
    rintro e w1 ⟨rfl, n1, rfl⟩
    go_wp2_with fail
    refine (HCP.out _).mono ?_
    rintro e w2 ⟨rfl, rfl⟩
    go_wp2_with fail
    refine (HRD.out _).mono ?_
    rintro e w3 ⟨rfl, b3⟩
    have H3 := Lib.hid ((H.out.drewN n1).below b3 hlt)
    have HG3 := Lib.hid (gb_trans (gb_of_drewN w n1 (some rp)) (gb_below b3 (some rp)))
    clear b3
    go_wp2
    go_ret2
    exact ⟨rfl, H3.out, HG3.out⟩
end Go.Proofs.YtplenagncmhhoaaDoor
