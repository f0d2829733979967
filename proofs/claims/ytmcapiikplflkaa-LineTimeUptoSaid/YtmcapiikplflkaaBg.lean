/- bytes.Clone of bytes anywhere; Bytes, Take of a buffer. -/
import Derived.Test.YtmcapiikplflkaaBf
namespace Go.Proofs.Ytmcapiikplflkaa
open Go.RowKit Go.Maps

theorem cl_yes (w : World) (n c : Nat) : (binOp .eql 30 (.slice none n c) (.slice none 0 0)).run Try.prog w = .ok (.bool true) w := by kernel_rfl
theorem cl_no (w : World) (ad : Addr) (n c : Nat) : (binOp .eql 30 (.slice (some ad) n c) (.slice none 0 0)).run Try.prog w = .ok (.bool false) w := by kernel_rfl
/-- An empty row of its own. -/
theorem row_empty (w : World) : RowAt (w.alloc (.cells #[] 5)) (some ⟨w.heap.size, 0, none⟩) 0 0 [] :=
  ⟨rfl, Nat.le_refl _, Nat.zero_le _, .inr ⟨w.heap.size, 0, rfl, by simp, fun i z hi => by simp at hi, fun j hj => by omega⟩⟩
def CloneP (w : World) (n : Nat) (bs : List UInt8) (e : Ending) (w' : World) : Prop := ∃ A' c', e = .returned (.slice A' n c') ∧ RowAt w' A' n c' bs ∧ (∀ j, InB A' j → w.heap.size ≤ j) ∧ Below w.heap.size w w'
set_option maxHeartbeats 1000000 in
set_option maxRecDepth 100000 in
theorem clone_row {w : World} {A : Option Addr} {n : Nat} {bs : List UInt8} (c : Nat) (h : BytesAt w A n bs) (hl : n ≤ 140737488355328) : Calls Try.prog 67 #[.slice A n c] w (CloneP w n bs) := by
  obtain rfl := h.1
  cases A with
  | none =>
    obtain rfl : bs = [] := List.eq_nil_of_length_eq_zero (by
      rcases Nat.eq_zero_or_pos bs.length with h0 | h0
      · exact h0
      · obtain ⟨b, o, e, _⟩ := h.2 h0; cases e)
    show Calls Try.prog 67 #[.slice none 0 c] w (CloneP w 0 [])
    have hny := cl_yes w 0 c
    go_enter Try.func67, Try.ntmps67
    go_wp2
    go_ret
    exact ⟨none, 0, rfl, RowAt.nil _, (fun j hj => by obtain ⟨o, e⟩ := hj; cases e), Below.refl _ _⟩
  | some ad =>
    obtain ⟨n, hn⟩ : ∃ n, n = bs.length := ⟨_, rfl⟩
    rw [← hn] at h hl ⊢
    have hb1 : BytesAt (w.alloc (.cells #[] 5)) (some ad) n bs := h.up (fun b hb => Below.heap_alloc w _ b hb) (by simp)
    obtain ⟨A', c', w1, hrun, hr, hk, hin⟩ := row_append (d := c) 30 (row_empty w) hb1 (by omega)
    rw [Nat.zero_add] at hrun hr
    have HRUN := Lib.hid hrun
    have hfar : ∀ j, InB A' j → w.heap.size ≤ j := fun j hj => by
      rcases hin j hj with ⟨o, e⟩ | h2
      · injection e with e; injection e with e _ _; omega
      · simp at h2; omega
    have HR := Lib.hid (show CloneP w n bs (.returned (.slice A' n c')) w1 from ⟨A', c', rfl, hr, hfar, ((kept_below ((Below.refl w.heap.size w).alloc (Nat.le_refl _) _)).trans hk (fun j ⟨o, e⟩ => by
      right; injection e with e; injection e with e _ _; omega) : Kept (fun _ => False) w w1).below (Nat.le_refl _) (fun j hj => False.elim hj)⟩)
    clear hrun hr hk hin hfar hb1 h hn
    have hnn := cl_no w ad n c
    go_enter Try.func67, Try.ntmps67
    go_wp2_with (at_builtin; refine wpList_append_run rfl (.tmp 5) (.tmp 6) 30 rfl _ _ _ rfl rfl HRUN.out ?_)
    go_ret
    exact HR.out
section
variable {w w' : World} {bp : Nat} {A B : Option Addr} {c m d most : Nat} {bs xs : List UInt8} {gone : Int}
set_option maxRecDepth 100000 in
theorem bbytes_any (h : BufAt w bp A c bs most gone) : Calls Try.prog 49 #[.pointer (some ⟨bp, 0, none⟩)] w (CloneP w bs.length bs) := by
  have C := Lib.hid (clone_row c h.row.bytes (by have := h.fit; have := h.most2; omega))
  obtain ⟨c0, c1, c2, f0, f1, f2⟩ := blk3 h.top
  obtain ⟨n, hn⟩ : ∃ n, n = bs.length := ⟨_, rfl⟩
  rw [← hn] at C c0 ⊢
  clear h hn
  go_enter Try.func49, Try.ntmps49
  go_wp2_with fail
  refine C.out.mono ?_
  rintro e w1 ⟨A', c', rfl, hr, hf, hb⟩
  have H := Lib.hid (show CloneP w n bs (.returned (.slice A' n c')) w1 from ⟨A', c', rfl, hr, hf, hb⟩)
  clear hr hf hb C
  go_wp2
  go_ret
  exact H.out
theorem behind_zero (A : Option Addr) (c : Nat) : behind A c 0 = A := by
  unfold behind
  split
  · rfl
  · cases A with
    | none => rfl
    | some a => simp [Addr.add]
/-- How many are taken. -/
def takeN (k : Int) (n : Nat) : Nat := (min (max k 0) (n : Int)).toNat
theorem takeN_le (k : Int) (n : Nat) : takeN k n ≤ n := by unfold takeN; omega
def TakeP (w : World) (bp : Nat) (A : Option Addr) (bs : List UInt8) (most : Nat) (gone : Int) (t : Nat) (e : Ending) (w' : World) : Prop := ∃ A2 c2 A' c', e = .returned (.slice A2 t c2) ∧ RowAt w' A2 t c2 (bs.take t) ∧ BufAt w' bp A' c' (bs.drop t) most gone ∧ Kept (bufF bp A) w w' ∧ (∀ j, InB A' j → InB A j) ∧ ∀ j, InB A2 j → w.heap.size ≤ j
set_option maxHeartbeats 2000000 in
set_option maxRecDepth 100000 in
theorem btake_any (h : BufAt w bp A c bs most gone) (k : Int) : Calls Try.prog 47 #[.pointer (some ⟨bp, 0, none⟩), .int .i64 k] w (TakeP w bp A bs most gone (takeN k bs.length)) := by
  obtain ⟨n, hn⟩ : ∃ n, n = bs.length := ⟨_, rfl⟩
  obtain ⟨t, ht⟩ : ∃ t, t = takeN k n := ⟨_, rfl⟩
  have htn : t ≤ n := ht ▸ takeN_le k n
  rw [← hn, ← ht]
  have hfit := h.fit
  have hm1 := h.most1
  have hm2 := h.most2
  have hap := h.apart
  have htop := h.top
  have hrow := h.row
  have hle := hrow.le
  have hmx := hrow.max
  unfold maxLen at hmx
  rw [← hn] at htop hrow hle hfit
  have C := Lib.hid (clone_row (w := w) c (hrow.bytes.cut htn) (by omega))
  obtain ⟨c0, c1, c2, f0, f1, f2⟩ := blk3 htop
  have HTOP := Lib.hid htop
  have HROW := Lib.hid hrow
  have HAP := Lib.hid hap
  have HN := Lib.hid hn
  obtain ⟨A1, hA1⟩ : ∃ A1, A1 = behind A c t := ⟨_, rfl⟩
  have hrd := hrow.drop htn
  rw [← hA1] at hrd
  have HRD := Lib.hid hrd
  have hA2 : (if c = t then A else Option.map (fun x => x.add t) A) = A1 := hA1.symm
  have HIN := Lib.hid (fun (j : Nat) (hj : InB A1 j) => show InB A j from hrow.behind_in (hA1 ▸ hj))
  have htc : t ≤ c := by omega
  have hways : (k < 0 ∧ t = 0) ∨ ∃ kk : Nat, k = (kk : Int) ∧ t = min kk n := by
    unfold takeN at ht
    rcases Int.lt_or_le k 0 with h0 | h0
    · exact .inl ⟨h0, by omega⟩
    · exact .inr ⟨k.toNat, by omega, by omega⟩
  clear h htop hrow hap hn ht hA1 hrd
  have fin : ∀ (w1 : World) (A2 : Option Addr) (c2 : Nat), RowAt w1 A2 t c2 (bs.take t) → (∀ j, InB A2 j → w.heap.size ≤ j) → Below w.heap.size w w1 → TakeP w bp A bs most gone t (.returned (.slice A2 t c2)) (w1.setCell ⟨bp, 0, none⟩ (.slice A1 (n - t) (c - t))) := by
    intro w1 A2 c2 hr hf hb
    have hlt := HTOP.out.lt
    have hl : (bs.drop t).length = n - t := by rw [List.length_drop, ← HN.out]
    have hn1 : ¬ InB A1 bp := fun h => HAP.out (HIN.out bp h)
    refine ⟨A2, c2, A1, c - t, rfl, hr.set_ (p := ⟨bp, 0, none⟩) (fun h => by have := hf bp h; omega) _, ⟨?_, ?_, by rw [hl]; omega, hm1, hm2, hn1⟩, ((kept_below (X := fun _ => False) hb).mono (fun j _ hx => False.elim hx)).set_ (p := ⟨bp, 0, none⟩) (.inl (.inl rfl)) _, HIN.out, hf⟩
    · rw [hl]
      exact ((HTOP.out.below hb hlt).set_ 0 _ : Blk _ _ _ _)
    · rw [hl]
      exact (HRD.out.below hb).set_ (p := ⟨bp, 0, none⟩) hn1 _
  have FIN := Lib.hid fin
  clear fin
  rcases hways with ⟨hk, rfl⟩ | ⟨kk, rfl, hkt⟩
  · have e : A1 = A := hA2.symm.trans (behind_zero A c)
    rw [e, Nat.sub_zero, Nat.sub_zero] at FIN
    clear hA2 HRD HIN e
    go_enter Try.func47, Try.ntmps47
    go_wp2_with fail
    refine C.out.mono ?_
    rintro e w1 ⟨A', c', rfl, hr, hf, hb⟩
    have H := Lib.hid (FIN.out w1 A' c' hr hf hb)
    have hlt := HTOP.out.lt
    have T1 := HTOP.out.below hb hlt
    obtain ⟨d0, d1, d2, k0, k1, k2⟩ := blk3 T1
    clear hr hf hb C c0 c1 c2 f0 f1 f2 T1 hlt
    go_wp2
    go_ret
    exact H.out
  · have q1 : (if n < kk then (n : Int) else (kk : Int)) = (t : Int) := by split <;> omega
    clear hkt
    go_enter Try.func47, Try.ntmps47
    go_wp2_with fail
    refine C.out.mono ?_
    rintro e w1 ⟨A', c', rfl, hr, hf, hb⟩
    have H := Lib.hid (FIN.out w1 A' c' hr hf hb)
    have hlt := HTOP.out.lt
    have T1 := HTOP.out.below hb hlt
    obtain ⟨d0, d1, d2, k0, k1, k2⟩ := blk3 T1
    clear hr hf hb C c0 c1 c2 f0 f1 f2 T1 hlt q1
    go_wp2
    go_ret
    exact H.out
end
end Go.Proofs.Ytmcapiikplflkaa
