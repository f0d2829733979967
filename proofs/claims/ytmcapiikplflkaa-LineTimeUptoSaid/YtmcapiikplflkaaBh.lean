/- A buffer that a law has made, with its blocks; two of them and a row beside; the document's example (alive). -/
import Derived.Test.YtmcapiikplflkaaBg
namespace Go.Proofs.Ytmcapiikplflkaa
open Go.RowKit Go.Maps

/-- A buffer whose blocks are among X, all made since w0. -/
structure BS (w0 w : World) (bp : Nat) (X : Nat → Prop) (bs : List UInt8) (most : Nat) (gone : Int) : Prop where
  at_ : ∃ A c, BufAt w bp A c bs most gone ∧ ∀ j, bufF bp A j → X j
  inn : ∀ j, X j → j < w.heap.size ∧ w0.heap.size ≤ j
  old : Below w0.heap.size w0 w
/-- What a call leaves that turns the buffer. -/
def Aft (w0 w : World) (bp : Nat) (X : Nat → Prop) (bs : List UInt8) (most : Nat) (gone : Int) (w' : World) : Prop := ∃ X', BS w0 w' bp X' bs most gone ∧ Kept X w w' ∧ ∀ j, X' j → X j ∨ w.heap.size ≤ j
section
variable {w0 w w' : World} {bp : Nat} {A B : Option Addr} {X Y : Nat → Prop} {m d most : Nat} {bs xs : List UInt8} {gone : Int}
theorem old_kept (h : Below w0.heap.size w0 w) (hk : Kept Y w w') (hY : ∀ j, Y j → w0.heap.size ≤ j) : Below w0.heap.size w0 w' := h.trans (hk.below h.size hY)
theorem BS.kept (h : BS w0 w bp X bs most gone) (hk : Kept Y w w') (hX : ∀ j, X j → ¬ Y j) (hY : ∀ j, Y j → w0.heap.size ≤ j) : BS w0 w' bp X bs most gone :=
  ⟨by obtain ⟨A, c, h1, h2⟩ := h.at_; exact ⟨A, c, h1.kept hk (fun b hb => hX b (h2 b hb)), h2⟩, fun j hj => ⟨Nat.lt_of_lt_of_le (h.inn j hj).1 hk.size, (h.inn j hj).2⟩, old_kept h.old hk hY⟩
theorem BS.below (h : BS w0 w bp X bs most gone) (hb : Below w.heap.size w w') : BS w0 w' bp X bs most gone := h.kept (kept_below (X := fun _ => False) hb) (fun _ _ h => h) (fun _ h => False.elim h)
theorem BS.own (h : BS w0 w bp X bs most gone) : ∀ j, X j → w0.heap.size ≤ j := fun j hj => (h.inn j hj).2
theorem BS.lt (h : BS w0 w bp X bs most gone) : bp < w.heap.size := by
  obtain ⟨A, c, h1, h2⟩ := h.at_
  exact (h.inn bp (h2 bp (.inl rfl))).1
theorem BS.size (h : BS w0 w bp X bs most gone) : bs.length ≤ most ∧ 1 ≤ most ∧ most ≤ 2000 := by
  obtain ⟨A, c, h1, h2⟩ := h.at_
  exact ⟨h1.fit, h1.most1, h1.most2⟩
theorem bs_new (k : Int) (w : World) (hw : Below w0.heap.size w0 w) : Calls Try.prog 42 #[.int .i64 k] w fun e w' => e = .returned (.pointer (some ⟨w.heap.size, 0, none⟩)) ∧ BS w0 w' w.heap.size (fun j => j = w.heap.size) [] (mostOf k) 0 ∧ Below w.heap.size w w' ∧ w'.heap.size = w.heap.size + 1 :=
  (bnew_any k w).mono fun e w' ⟨he, hb, hbl, hs⟩ => ⟨he, ⟨⟨none, 0, hb, fun j hj => by
    rcases hj with rfl | ⟨o, e⟩
    · rfl
    · cases e⟩, fun j hj => ⟨by rw [hj, hs]; omega, by rw [hj]; exact hw.size⟩, hw.trans (hbl.mono hw.size)⟩, hbl, hs⟩
theorem BS.put (h : BS w0 w bp X bs most gone) (hx : BytesAt w B m xs) (hd : m ≤ d) (hdm : d ≤ maxLen) (hm : m ≤ 1000000000) (hg0 : 0 ≤ gone) (hg1 : gone ≤ 1000000000000) :
    Calls Try.prog 45 #[.pointer (some ⟨bp, 0, none⟩), .slice B m d] w fun e w' => e = .returned (.int .i64 (goneBy bs xs most : Nat)) ∧ Aft w0 w bp X ((bs ++ xs).drop (goneBy bs xs most)) most (gone + (goneBy bs xs most : Nat)) w' := by
  obtain ⟨A, c, h1, h2⟩ := h.at_
  refine (bput_any h1 hx hd hdm hm hg0 hg1).mono ?_
  rintro e w' ⟨he, A', c', h3, hk, hin⟩
  have hlt := h1.lt (.inl rfl)
  refine ⟨he, fun j => X j ∨ (bufF bp A' j ∧ w.heap.size ≤ j), ⟨⟨A', c', h3, fun j hj => ?_⟩, fun j hj => ?_, old_kept h.old hk (fun j hj => h.own j (h2 j hj))⟩, hk.mono (fun j _ hj => h2 j hj), fun j hj => ?_⟩
  · rcases hj with rfl | hj
    · exact .inl (h2 j (.inl rfl))
    · rcases hin j hj with h4 | h4
      · exact .inl (h2 j (.inr h4))
      · exact .inr ⟨.inr hj, h4⟩
  · rcases hj with hj | ⟨hj, hl⟩
    · exact ⟨Nat.lt_of_lt_of_le (h.inn j hj).1 hk.size, (h.inn j hj).2⟩
    · have := (h.inn bp (h2 bp (.inl rfl)))
      exact ⟨h3.lt hj, by omega⟩
  · rcases hj with hj | ⟨_, hl⟩
    · exact .inl hj
    · exact .inr hl
def TakeQ (w0 w : World) (bp : Nat) (X : Nat → Prop) (bs : List UInt8) (most : Nat) (gone : Int) (t : Nat) (e : Ending) (w' : World) : Prop := ∃ A2 c2, e = .returned (.slice A2 t c2) ∧ RowAt w' A2 t c2 (bs.take t) ∧ BS w0 w' bp X (bs.drop t) most gone ∧ Kept X w w' ∧ ∀ j, InB A2 j → w.heap.size ≤ j
theorem BS.take (h : BS w0 w bp X bs most gone) (k : Int) : Calls Try.prog 47 #[.pointer (some ⟨bp, 0, none⟩), .int .i64 k] w (TakeQ w0 w bp X bs most gone (takeN k bs.length)) := by
  obtain ⟨A, c, h1, h2⟩ := h.at_
  refine (btake_any h1 k).mono ?_
  rintro e w' ⟨A2, c2, A', c', he, hr, h3, hk, hin, hf⟩
  refine ⟨A2, c2, he, hr, ⟨⟨A', c', h3, fun j hj => ?_⟩, fun j hj => ⟨Nat.lt_of_lt_of_le (h.inn j hj).1 hk.size, (h.inn j hj).2⟩, old_kept h.old hk (fun j hj => h.own j (h2 j hj))⟩, hk.mono (fun j _ hj => h2 j hj), hf⟩
  rcases hj with rfl | hj
  · exact h2 j (.inl rfl)
  · exact h2 j (.inr (hin j hj))
theorem BS.bytes (h : BS w0 w bp X bs most gone) : Calls Try.prog 49 #[.pointer (some ⟨bp, 0, none⟩)] w (CloneP w bs.length bs) := by
  obtain ⟨A, c, h1, h2⟩ := h.at_
  exact bbytes_any h1
theorem BS.full (h : BS w0 w bp X bs most gone) : Calls Try.prog 50 #[.pointer (some ⟨bp, 0, none⟩)] w fun e w' => e = .returned (.bool (decide (bs.length = most))) ∧ Below w.heap.size w w' := by
  obtain ⟨A, c, h1, h2⟩ := h.at_
  exact (bfull_any h1).mono fun e w' ⟨he, k, hw⟩ => ⟨he, hw ▸ ⟨rfl, rfl, rfl, Nat.le_refl _, fun _ _ => rfl⟩⟩
theorem BS.went (h : BS w0 w bp X bs most gone) : Calls Try.prog 51 #[.pointer (some ⟨bp, 0, none⟩)] w fun e w' => e = .returned (.int .i64 gone) ∧ w' = w := by
  obtain ⟨A, c, h1, h2⟩ := h.at_
  exact bgone_any h1
end
set_option maxHeartbeats 2000000 in
set_option maxRecDepth 100000 in
theorem balive_any (w : World) : Calls Try.prog 43 #[] w fun e w' => e = .returned (.bool true) ∧ Below w.heap.size w w' := by
  have hcv := conv_const
  go_enter Try.func43, Try.ntmps43
  go_wp2_with fail
  refine (bs_new (w0 := w) 3 _ (Below.refl _ _)).mono ?_
  rintro e w1 ⟨rfl, h1, b1, -⟩
  have h1' := h1.below (((Below.refl w1.heap.size w1).alloc (Nat.le_refl _) (.cells #[.int .u8 97, .int .u8 98] 5 (2, 3))))
  have C := Lib.hid (show Calls _ _ _ _ (fun e w' => e = .returned (.int .i64 0) ∧ Aft w _ _ _ [97, 98] 3 0 w') from h1'.put (d := 2) (bytes_new w1 [97, 98] (2, 3)) (Nat.le_refl _) (by decide) (by decide) (by decide) (by decide))
  clear h1 h1' b1
  go_wp2_with fail
  refine C.out.mono ?_
  rintro e w2 ⟨rfl, X2, h2, -, -⟩
  have h2' := h2.below (((Below.refl w2.heap.size w2).alloc (Nat.le_refl _) (.cells #[.int .u8 99, .int .u8 100] 5 (2, 3))))
  have C := Lib.hid (show Calls _ _ _ _ (fun e w' => e = .returned (.int .i64 1) ∧ Aft w _ _ _ [98, 99, 100] 3 1 w') from h2'.put (d := 2) (bytes_new w2 [99, 100] (2, 3)) (Nat.le_refl _) (by decide) (by decide) (by decide) (by decide))
  clear h2 h2'
  go_wp2_with fail
  refine C.out.mono ?_
  rintro e w3 ⟨rfl, X3, h3, -, -⟩
  have C := Lib.hid (show Calls _ _ _ _ (fun e w' => e = .returned (.bool true) ∧ Below w3.heap.size w3 w') from h3.full)
  go_wp2_with fail
  refine C.out.mono ?_
  rintro e w4 ⟨rfl, b4⟩
  have h4 := h3.below b4
  have C := Lib.hid (show Calls _ _ _ _ (CloneP w4 3 [98, 99, 100]) from h4.bytes)
  clear h3 b4
  go_wp2_with fail
  refine C.out.mono ?_
  rintro e w5 ⟨A5, c5, rfl, r5, -, b5⟩
  have h5 := h4.below b5
  have hst : (convert 30 9 (.slice A5 3 c5)).run Try.prog w5 = .ok (.string ⟨#[98, 99, 100]⟩) w5 := conv_str r5.bytes c5
  have C := Lib.hid (show Calls _ _ _ _ (TakeQ w w5 _ X3 [98, 99, 100] 3 1 2) from h5.take 2)
  clear h4 b5 r5
  go_wp2_with fail
  refine C.out.mono ?_
  rintro e w6 ⟨A6, c6, rfl, r6, h6, -, -⟩
  have hst : (convert 30 9 (.slice A6 2 c6)).run Try.prog w6 = .ok (.string ⟨#[98, 99]⟩) w6 := conv_str r6.bytes c6
  have C := Lib.hid (show Calls _ _ _ _ (fun e w' => e = .returned (.bool false) ∧ Below w6.heap.size w6 w') from h6.full)
  clear r6 h5
  go_wp2_with fail
  refine C.out.mono ?_
  rintro e w7 ⟨rfl, b7⟩
  have h7 := h6.below b7
  clear h6 b7
  have h7' := h7.below (((Below.refl w7.heap.size w7).alloc (Nat.le_refl _) (.cells #[.int .u8 119, .int .u8 120, .int .u8 121, .int .u8 122] 5 (4, 5))))
  have C := Lib.hid (show Calls _ _ _ _ (fun e w' => e = .returned (.int .i64 2) ∧ Aft w _ _ _ [120, 121, 122] 3 3 w') from h7'.put (d := 4) (bytes_new w7 [119, 120, 121, 122] (4, 5)) (Nat.le_refl _) (by decide) (by decide) (by decide) (by decide))
  clear h7 h7'
  go_wp2_with fail
  refine C.out.mono ?_
  rintro e w8 ⟨rfl, X8, h8, -, -⟩
  have C := Lib.hid (show Calls _ _ _ _ (CloneP w8 3 [120, 121, 122]) from h8.bytes)
  go_wp2_with fail
  refine C.out.mono ?_
  rintro e w9 ⟨A9, c9, rfl, r9, -, b9⟩
  have h9 := h8.below b9
  have hst : (convert 30 9 (.slice A9 3 c9)).run Try.prog w9 = .ok (.string ⟨#[120, 121, 122]⟩) w9 := conv_str r9.bytes c9
  have C := Lib.hid h9.went
  have HB := Lib.hid h9.old
  clear h8 b9 r9 h9
  go_wp2_with fail
  refine C.out.mono ?_
  rintro e w10 ⟨rfl, rfl⟩
  go_wp2
  go_ret
  exact ⟨rfl, HB.out⟩
end Go.Proofs.Ytmcapiikplflkaa
