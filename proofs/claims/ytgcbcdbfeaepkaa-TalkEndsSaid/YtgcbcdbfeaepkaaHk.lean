/- TalkEnds' walk. -/
import Derived.Test.YtgcbcdbfeaepkaaHj
namespace Go.Proofs.Ytgcbcdbfeaepkaa
open Go.RowKit Go.Maps

def endsOf (s : ByteArray) (has twice : Bool) : List Sp := [⟨1, s⟩] ++ (if has then [⟨6, ⟨#[]⟩⟩, ⟨5, ⟨#[]⟩⟩] else []) ++ (if twice then [⟨5, ⟨#[]⟩⟩, ⟨6, ⟨#[]⟩⟩] else [])
def wantOf (has twice : Bool) (e : Int) : Int := if has then (if e = 1 then 2 else 1) else if twice then (if e = 1 then 1 else 2) else -1
theorem ends_okOf (s t : ByteArray) (ht : t.data.toList = s.data.toList ++ [33]) (has twice : Bool) (e : Int) (he : e = 1 ∨ e = 2) : EndsOk ((endsOf t has twice).map clOf) s.data.toList e (e + 2) (wantOf has twice e) := by
  have hx : ∀ bs : List UInt8, bs.length ≤ s.data.toList.length → exF t.data.toList bs = none := fun bs hb => by
    exact exF_long (by rw [ht, List.length_append]; exact Nat.lt_succ_of_le hb)
  refine ⟨fun bs hb => ?_, ?_, ?_⟩
  · cases has <;> cases twice <;> simp [endsOf, foundT, hx bs hb, clOf]
  · cases has <;> cases twice <;> simp [endsOf, firstK, clOf]
  · rcases he with rfl | rfl
    · exact .inl ⟨rfl, rfl, by cases has <;> cases twice <;> simp [endsOf, firstK, clOf, wantOf]⟩
    · exact .inr ⟨rfl, rfl, by cases has <;> cases twice <;> simp [endsOf, firstK, clOf, wantOf]⟩
theorem ends_spok (t : ByteArray) (ht : t.size ≤ 256) (has twice : Bool) : ∀ p ∈ endsOf t has twice, SpOk p := by
  intro p hp
  cases has <;> cases twice <;> simp [endsOf] at hp
  · subst hp; exact .inl ⟨rfl, ht⟩
  all_goals
    rcases hp with rfl | hp
    · exact .inl ⟨rfl, ht⟩
    · first
      | (rcases hp with rfl | rfl <;> exact .inr (by decide))
      | (rcases hp with rfl | rfl | rfl | rfl <;> exact .inr (by decide))
def EndP (w : World) (e : Ending) (w' : World) : Prop := e = .returned (.bool true) ∧ Below w.heap.size w w'
set_option maxHeartbeats 8000000 in
set_option maxRecDepth 100000 in
theorem ends_nn0 {w : World} (en : Int) (s : ByteArray) (hs : s.size ≤ 100) (hev : bits BinOp.and IntKind.i64 en 1 = 0) : Calls Try.prog 13 #[.int .i64 en, .bool false, .bool false, .string s] w (EndP w) := by
  have hov : ¬ 9223372036854775807 < s.size + 1 := by omega
  have h100 : decide ((100 : Int) < (s.size : Int)) = false := by rw [decide_eq_false_iff_not]; omega
  have h100b : ¬ (100 : Int) < (s.size : Int) := by omega
  have hwr : IntKind.i64.wrap 1 = 1 := by decide
  obtain ⟨t, ht⟩ : ∃ t, t = s ++ ⟨#[33]⟩ := ⟨_, rfl⟩
  have htl : t.data.toList = s.data.toList ++ [33] := by rw [ht]; simp
  have hts : t.size ≤ 256 := by have : t.size = t.data.toList.length := rfl; rw [this, htl, List.length_append]; show s.size + 1 ≤ 256; omega
  have HTL := Lib.hid htl
  have HTS := Lib.hid hts
  have HT := Lib.hid ht
  clear ht htl hts
  go_enter Try.func13, Try.ntmps13
  go_wp2_with fail
  refine (talive_any _).mono ?_
  rintro e w0 ⟨rfl, ba⟩
  have BA := Lib.hid ba
  clear ba
  have b0 := (Below.refl w0.heap.size w0).alloc (Nat.le_refl _) (.cells #[.int .i64 1, .string t, .bool false, .slice none 0 0] 80)
  have o0 : (w0.alloc (.cells #[.int .i64 1, .string t, .bool false, .slice none 0 0] 80)).ownsRow w0.heap.size 80 4 (.slice (some ⟨w0.heap.size, 0, none⟩) 1 1) 1 (flatA [⟨1, t⟩]) := World.ownsRow_lit w0 #[.int .i64 1, .string t, .bool false, .slice none 0 0] 1 (Nat.le_refl _) (by decide) rfl
  have O := Lib.hid o0
  have B := Lib.hid b0
  have hsz : w0.heap.size ≤ (w0.alloc (.cells #[.int .i64 1, .string t, .bool false, .slice none 0 0] 80)).heap.size := by simp
  clear b0 o0
  have hA : AClsAt (w0.alloc (.cells #[.int .i64 1, .string t, .bool false, .slice none 0 0] 80)) (some ⟨w0.heap.size, 0, none⟩) 1 (endsOf t false false) := acl_of O.out rfl (by decide)
  have C := Lib.hid (compile_any hA (ends_spok t HTS.out false false) 1)
  clear hA
  have hte : s ++ ⟨#[33]⟩ = t := HT.out.symm
  go_wp2_with fail
  refine C.out.mono ?_
  rintro e w1 ⟨A9, c9, Z, rfl, hcl, hz, b1⟩
  have HCL := Lib.hid hcl
  have HZ := Lib.hid hz
  have HB1 := Lib.hid b1
  obtain ⟨cb, W5, hcv, hby, b5, hs5⟩ := bytes_of9 w1 s
  have b6 := (Below.refl W5.heap.size W5).alloc (Nat.le_refl _) (.cells #[.int .i64 1, .slice (some ⟨w1.heap.size, 0, none⟩) s.size cb] 103)
  have hch : ArgCh (W5.alloc (.cells #[.int .i64 1, .slice (some ⟨w1.heap.size, 0, none⟩) s.size cb] 103)) (some ⟨w1.heap.size + 1, 0, none⟩) 1 [⟨1, some ⟨w1.heap.size, 0, none⟩, s.size, cb, s.data.toList⟩] := by
    have hb := Blk.new W5 103 #[.int .i64 1, .slice (some ⟨w1.heap.size, 0, none⟩) s.size cb]
    rw [hs5] at hb
    refine ⟨rfl, by decide, fun k hk => ?_, fun _ => ⟨w1.heap.size + 1, 0, rfl, hb.lt, fun i k hi => ?_⟩⟩
    · rcases List.mem_cons.1 hk with rfl | hk
      · exact ⟨hby.below b6, by show s.size ≤ _; omega⟩
      · cases hk
    · match i, hi with
      | 0, hi => simp at hi; subst hi; exact ⟨hb.cell 0, hb.cell 1⟩
      | i + 1, hi => simp at hi
  have C2 := Lib.hid (show Calls _ _ _ _ (OpenP _ ⟨[(1, s.data.toList)], 1, 2, 0, 0, []⟩) from open_any (c := 1) (1) 2 hch)
  have B2 := Lib.hid (b5.trans (b6.mono (by omega)))
  clear hcl hz b1 hch C hby b5 b6
  go_wp2_with fail
  refine C2.out.mono ?_
  rintro e w2 ⟨lp, X, R, rfl, hl⟩
  have HL := Lib.hid hl
  have B02 := Lib.hid (((B.out.trans (HB1.out.mono hsz)).trans (B2.out.mono (Nat.le_trans hsz HB1.out.size))).trans (hl.old.mono (by have := HB1.out.size; have := B2.out.size; omega)))
  have C3 := Lib.hid (bs_new (w0 := w0) 200 w2 B02.out)
  clear hl C2
  go_wp2_with fail
  refine C3.out.mono ?_
  rintro e w3 ⟨rfl, hb, b3, -⟩
  have HT := Lib.hid (ts_make (gone := 0) (most := 200) B.out HCL.out HZ.out B2.out HL.out HB1.out hb b3)
  have HW := Lib.hid BA.out.size
  have EO := Lib.hid (ends_okOf s t HTL.out false false 1 (by decide))
  have hsl : s.data.toList.length ≤ 100 := hs
  clear hb b3 C3 hcv
  go_wp2_with fail
  go_loopw [16] (fun i wr => ∃ j : Nat, j ≤ 3 ∧ i = .int .i64 (j : Nat) ∧ ∃ Y, (j = 0 ∧ TS w0 wr lp w2.heap.size X R Y A9 1 ((endsOf t false false).map clOf) Z ⟨[(1, s.data.toList)], 1, 2, 0, 0, []⟩ [] 200 0) ∨ (1 ≤ j ∧ TS w0 wr lp w2.heap.size X R Y A9 1 ((endsOf t false false).map clOf) Z ⟨[], 1, 2, 1, 3, []⟩ s.data.toList 200 0)) (fun i _ => 3 - (intOf i).toNat)
  case atStart => exact ⟨0, Nat.zero_le _, rfl, _, .inl ⟨rfl, HT.out⟩⟩
  case round =>
    obtain ⟨j, hj, rfl, Y, hT⟩ := hrel
    by_cases hlt : j < 3
    · have hlt' : (j : Int) < 3 := by omega
      rcases hT with ⟨rfl, ht⟩ | ⟨hj1, ht⟩
      · have C := wait_any ht c9 100 1000 3 (ends_ok1 _ _ _ hsl) (by decide) (by decide)
        rw [ends_first EO.out hsl] at C
        have C := Lib.hid C
        go_wp2_with fail
        refine C.out.mono ?_
        rintro e w4 h4
        obtain ⟨Y4, D4, m4, d4, rfl, -, -, t4, -, -⟩ := h4.open_
        have ba4 := (Below.refl w4.heap.size w4).alloc (Nat.le_refl _) (.cells #[.int .i64 3, .int .i64 (-1), .slice D4 m4 d4, .int .i64 0] 105)
        have T4 := Lib.hid (t4.below ba4)
        have N4 := Lib.hid (show Calls _ _ _ _ (fun e w' => e = .returned (.int .i64 3) ∧ w' = _) from T4.out.line.now_)
        have CB := Lib.hid T4.out.buf.bytes
        clear h4 t4 ba4 C ht
        go_wp2_with fail
        refine N4.out.mono ?_
        rintro e w4' ⟨rfl, rfl⟩
        go_wp2_with fail
        refine CB.out.mono ?_
        rintro e w6 ⟨A6, c6, rfl, r6, -, b6⟩
        have hst6 : (convert 52 9 (.slice A6 s.size c6)).run Try.prog w6 = .ok (.string s) w6 := by
          have := conv_str r6.bytes c6
          rwa [show (⟨s.data.toList.toArray⟩ : ByteArray) = s by cases s; simp] at this
        have T6 := Lib.hid (T4.out.below b6)
        clear r6 b6 CB N4
        go_wp2
        go_roundw
        case rel => exact ⟨0 + 1, by omega, by go_num, Y4, .inr ⟨by omega, by simpa using T6.out⟩⟩
        case measure => simp [intOf] <;> omega
      · have C := wait_any ht c9 100 1000 3 (ends_ok2 _ _ _ hsl) (by decide) (by decide)
        rw [ends_tail EO.out 2 false 3 (by decide) _ rfl] at C
        have C := Lib.hid C
        go_wp2_with fail
        refine C.out.mono ?_
        rintro e w4 h4
        obtain ⟨Y4, D4, m4, d4, rfl, -, -, t4, -, -⟩ := h4.open_
        have ba4 := (Below.refl w4.heap.size w4).alloc (Nat.le_refl _) (.cells #[.int .i64 3, .int .i64 (-1), .slice D4 m4 d4, .int .i64 0] 105)
        have T4 := Lib.hid (t4.below ba4)
        have N4 := Lib.hid (show Calls _ _ _ _ (fun e w' => e = .returned (.int .i64 3) ∧ w' = _) from T4.out.line.now_)
        have CB := Lib.hid T4.out.buf.bytes
        clear h4 t4 ba4 C ht
        go_wp2_with fail
        refine N4.out.mono ?_
        rintro e w4' ⟨rfl, rfl⟩
        go_wp2_with fail
        refine CB.out.mono ?_
        rintro e w6 ⟨A6, c6, rfl, r6, -, b6⟩
        have hst6 : (convert 52 9 (.slice A6 s.size c6)).run Try.prog w6 = .ok (.string s) w6 := by
          have := conv_str r6.bytes c6
          rwa [show (⟨s.data.toList.toArray⟩ : ByteArray) = s by cases s; simp] at this
        have T6 := Lib.hid (T4.out.below b6)
        clear r6 b6 CB N4
        go_wp2
        go_roundw
        case rel => exact ⟨j + 1, by omega, by go_num, Y4, .inr ⟨by omega, by simpa using T6.out⟩⟩
        case measure => simp [intOf] <;> omega
    · have hlt' : ¬ (j : Int) < 3 := by omega
      have FIN := Lib.hid (show Below w.heap.size w wr from by
        rcases hT with ⟨_, ht⟩ | ⟨_, ht⟩
        · exact BA.out.trans (ht.line.old.mono HW.out)
        · exact BA.out.trans (ht.line.old.mono HW.out))
      clear hT
      go_wp2
      go_ret
      exact ⟨rfl, FIN.out⟩
set_option maxHeartbeats 8000000 in
set_option maxRecDepth 100000 in
theorem ends_nn1 {w : World} (en : Int) (s : ByteArray) (hs : s.size ≤ 100) (hev : bits BinOp.and IntKind.i64 en 1 = 1) : Calls Try.prog 13 #[.int .i64 en, .bool false, .bool false, .string s] w (EndP w) := by
  have hov : ¬ 9223372036854775807 < s.size + 1 := by omega
  have h100 : decide ((100 : Int) < (s.size : Int)) = false := by rw [decide_eq_false_iff_not]; omega
  have h100b : ¬ (100 : Int) < (s.size : Int) := by omega
  have hwr : IntKind.i64.wrap 2 = 2 := by decide
  obtain ⟨t, ht⟩ : ∃ t, t = s ++ ⟨#[33]⟩ := ⟨_, rfl⟩
  have htl : t.data.toList = s.data.toList ++ [33] := by rw [ht]; simp
  have hts : t.size ≤ 256 := by have : t.size = t.data.toList.length := rfl; rw [this, htl, List.length_append]; show s.size + 1 ≤ 256; omega
  have HTL := Lib.hid htl
  have HTS := Lib.hid hts
  have HT := Lib.hid ht
  clear ht htl hts
  go_enter Try.func13, Try.ntmps13
  go_wp2_with fail
  refine (talive_any _).mono ?_
  rintro e w0 ⟨rfl, ba⟩
  have BA := Lib.hid ba
  clear ba
  have b0 := (Below.refl w0.heap.size w0).alloc (Nat.le_refl _) (.cells #[.int .i64 1, .string t, .bool false, .slice none 0 0] 80)
  have o0 : (w0.alloc (.cells #[.int .i64 1, .string t, .bool false, .slice none 0 0] 80)).ownsRow w0.heap.size 80 4 (.slice (some ⟨w0.heap.size, 0, none⟩) 1 1) 1 (flatA [⟨1, t⟩]) := World.ownsRow_lit w0 #[.int .i64 1, .string t, .bool false, .slice none 0 0] 1 (Nat.le_refl _) (by decide) rfl
  have O := Lib.hid o0
  have B := Lib.hid b0
  have hsz : w0.heap.size ≤ (w0.alloc (.cells #[.int .i64 1, .string t, .bool false, .slice none 0 0] 80)).heap.size := by simp
  clear b0 o0
  have hA : AClsAt (w0.alloc (.cells #[.int .i64 1, .string t, .bool false, .slice none 0 0] 80)) (some ⟨w0.heap.size, 0, none⟩) 1 (endsOf t false false) := acl_of O.out rfl (by decide)
  have C := Lib.hid (compile_any hA (ends_spok t HTS.out false false) 1)
  clear hA
  have hte : s ++ ⟨#[33]⟩ = t := HT.out.symm
  go_wp2_with fail
  refine C.out.mono ?_
  rintro e w1 ⟨A9, c9, Z, rfl, hcl, hz, b1⟩
  have HCL := Lib.hid hcl
  have HZ := Lib.hid hz
  have HB1 := Lib.hid b1
  obtain ⟨cb, W5, hcv, hby, b5, hs5⟩ := bytes_of9 w1 s
  have b6 := (Below.refl W5.heap.size W5).alloc (Nat.le_refl _) (.cells #[.int .i64 1, .slice (some ⟨w1.heap.size, 0, none⟩) s.size cb] 103)
  have hch : ArgCh (W5.alloc (.cells #[.int .i64 1, .slice (some ⟨w1.heap.size, 0, none⟩) s.size cb] 103)) (some ⟨w1.heap.size + 1, 0, none⟩) 1 [⟨1, some ⟨w1.heap.size, 0, none⟩, s.size, cb, s.data.toList⟩] := by
    have hb := Blk.new W5 103 #[.int .i64 1, .slice (some ⟨w1.heap.size, 0, none⟩) s.size cb]
    rw [hs5] at hb
    refine ⟨rfl, by decide, fun k hk => ?_, fun _ => ⟨w1.heap.size + 1, 0, rfl, hb.lt, fun i k hi => ?_⟩⟩
    · rcases List.mem_cons.1 hk with rfl | hk
      · exact ⟨hby.below b6, by show s.size ≤ _; omega⟩
      · cases hk
    · match i, hi with
      | 0, hi => simp at hi; subst hi; exact ⟨hb.cell 0, hb.cell 1⟩
      | i + 1, hi => simp at hi
  have C2 := Lib.hid (show Calls _ _ _ _ (OpenP _ ⟨[(1, s.data.toList)], 2, 2, 0, 0, []⟩) from open_any (c := 1) (2) 2 hch)
  have B2 := Lib.hid (b5.trans (b6.mono (by omega)))
  clear hcl hz b1 hch C hby b5 b6
  go_wp2_with fail
  refine C2.out.mono ?_
  rintro e w2 ⟨lp, X, R, rfl, hl⟩
  have HL := Lib.hid hl
  have B02 := Lib.hid (((B.out.trans (HB1.out.mono hsz)).trans (B2.out.mono (Nat.le_trans hsz HB1.out.size))).trans (hl.old.mono (by have := HB1.out.size; have := B2.out.size; omega)))
  have C3 := Lib.hid (bs_new (w0 := w0) 200 w2 B02.out)
  clear hl C2
  go_wp2_with fail
  refine C3.out.mono ?_
  rintro e w3 ⟨rfl, hb, b3, -⟩
  have HT := Lib.hid (ts_make (gone := 0) (most := 200) B.out HCL.out HZ.out B2.out HL.out HB1.out hb b3)
  have HW := Lib.hid BA.out.size
  have EO := Lib.hid (ends_okOf s t HTL.out false false 2 (by decide))
  have hsl : s.data.toList.length ≤ 100 := hs
  clear hb b3 C3 hcv
  go_wp2_with fail
  go_loopw [16] (fun i wr => ∃ j : Nat, j ≤ 3 ∧ i = .int .i64 (j : Nat) ∧ ∃ Y, (j = 0 ∧ TS w0 wr lp w2.heap.size X R Y A9 1 ((endsOf t false false).map clOf) Z ⟨[(1, s.data.toList)], 2, 2, 0, 0, []⟩ [] 200 0) ∨ (1 ≤ j ∧ TS w0 wr lp w2.heap.size X R Y A9 1 ((endsOf t false false).map clOf) Z ⟨[], 2, 2, 1, 3, []⟩ s.data.toList 200 0)) (fun i _ => 3 - (intOf i).toNat)
  case atStart => exact ⟨0, Nat.zero_le _, rfl, _, .inl ⟨rfl, HT.out⟩⟩
  case round =>
    obtain ⟨j, hj, rfl, Y, hT⟩ := hrel
    by_cases hlt : j < 3
    · have hlt' : (j : Int) < 3 := by omega
      rcases hT with ⟨rfl, ht⟩ | ⟨hj1, ht⟩
      · have C := wait_any ht c9 100 1000 3 (ends_ok1 _ _ _ hsl) (by decide) (by decide)
        rw [ends_first EO.out hsl] at C
        have C := Lib.hid C
        go_wp2_with fail
        refine C.out.mono ?_
        rintro e w4 h4
        obtain ⟨Y4, D4, m4, d4, rfl, -, -, t4, -, -⟩ := h4.open_
        have ba4 := (Below.refl w4.heap.size w4).alloc (Nat.le_refl _) (.cells #[.int .i64 4, .int .i64 (-1), .slice D4 m4 d4, .int .i64 0] 105)
        have T4 := Lib.hid (t4.below ba4)
        have N4 := Lib.hid (show Calls _ _ _ _ (fun e w' => e = .returned (.int .i64 3) ∧ w' = _) from T4.out.line.now_)
        have CB := Lib.hid T4.out.buf.bytes
        clear h4 t4 ba4 C ht
        go_wp2_with fail
        refine N4.out.mono ?_
        rintro e w4' ⟨rfl, rfl⟩
        go_wp2_with fail
        refine CB.out.mono ?_
        rintro e w6 ⟨A6, c6, rfl, r6, -, b6⟩
        have hst6 : (convert 52 9 (.slice A6 s.size c6)).run Try.prog w6 = .ok (.string s) w6 := by
          have := conv_str r6.bytes c6
          rwa [show (⟨s.data.toList.toArray⟩ : ByteArray) = s by cases s; simp] at this
        have T6 := Lib.hid (T4.out.below b6)
        clear r6 b6 CB N4
        go_wp2
        go_roundw
        case rel => exact ⟨0 + 1, by omega, by go_num, Y4, .inr ⟨by omega, by simpa using T6.out⟩⟩
        case measure => simp [intOf] <;> omega
      · have C := wait_any ht c9 100 1000 3 (ends_ok2 _ _ _ hsl) (by decide) (by decide)
        rw [ends_tail EO.out 2 false 3 (by decide) _ rfl] at C
        have C := Lib.hid C
        go_wp2_with fail
        refine C.out.mono ?_
        rintro e w4 h4
        obtain ⟨Y4, D4, m4, d4, rfl, -, -, t4, -, -⟩ := h4.open_
        have ba4 := (Below.refl w4.heap.size w4).alloc (Nat.le_refl _) (.cells #[.int .i64 4, .int .i64 (-1), .slice D4 m4 d4, .int .i64 0] 105)
        have T4 := Lib.hid (t4.below ba4)
        have N4 := Lib.hid (show Calls _ _ _ _ (fun e w' => e = .returned (.int .i64 3) ∧ w' = _) from T4.out.line.now_)
        have CB := Lib.hid T4.out.buf.bytes
        clear h4 t4 ba4 C ht
        go_wp2_with fail
        refine N4.out.mono ?_
        rintro e w4' ⟨rfl, rfl⟩
        go_wp2_with fail
        refine CB.out.mono ?_
        rintro e w6 ⟨A6, c6, rfl, r6, -, b6⟩
        have hst6 : (convert 52 9 (.slice A6 s.size c6)).run Try.prog w6 = .ok (.string s) w6 := by
          have := conv_str r6.bytes c6
          rwa [show (⟨s.data.toList.toArray⟩ : ByteArray) = s by cases s; simp] at this
        have T6 := Lib.hid (T4.out.below b6)
        clear r6 b6 CB N4
        go_wp2
        go_roundw
        case rel => exact ⟨j + 1, by omega, by go_num, Y4, .inr ⟨by omega, by simpa using T6.out⟩⟩
        case measure => simp [intOf] <;> omega
    · have hlt' : ¬ (j : Int) < 3 := by omega
      have FIN := Lib.hid (show Below w.heap.size w wr from by
        rcases hT with ⟨_, ht⟩ | ⟨_, ht⟩
        · exact BA.out.trans (ht.line.old.mono HW.out)
        · exact BA.out.trans (ht.line.old.mono HW.out))
      clear hT
      go_wp2
      go_ret
      exact ⟨rfl, FIN.out⟩
set_option maxHeartbeats 8000000 in
set_option maxRecDepth 100000 in
theorem ends_ht0 {w : World} (en : Int) (s : ByteArray) (hs : s.size ≤ 100) (hev : bits BinOp.and IntKind.i64 en 1 = 0) : Calls Try.prog 13 #[.int .i64 en, .bool true, .bool true, .string s] w (EndP w) := by
  have hov : ¬ 9223372036854775807 < s.size + 1 := by omega
  have h100 : decide ((100 : Int) < (s.size : Int)) = false := by rw [decide_eq_false_iff_not]; omega
  have h100b : ¬ (100 : Int) < (s.size : Int) := by omega
  have hwr : IntKind.i64.wrap 1 = 1 := by decide
  obtain ⟨t, ht⟩ : ∃ t, t = s ++ ⟨#[33]⟩ := ⟨_, rfl⟩
  have htl : t.data.toList = s.data.toList ++ [33] := by rw [ht]; simp
  have hts : t.size ≤ 256 := by have : t.size = t.data.toList.length := rfl; rw [this, htl, List.length_append]; show s.size + 1 ≤ 256; omega
  have HTL := Lib.hid htl
  have HTS := Lib.hid hts
  have HT := Lib.hid ht
  clear ht htl hts
  go_enter Try.func13, Try.ntmps13
  go_wp2_with fail
  refine (talive_any _).mono ?_
  rintro e w0 ⟨rfl, ba⟩
  have BA := Lib.hid ba
  clear ba
  have b0 := (Below.refl w0.heap.size w0).alloc (Nat.le_refl _) (.cells #[.int .i64 1, .string t, .bool false, .slice none 0 0] 80)
  have o0 : (w0.alloc (.cells #[.int .i64 1, .string t, .bool false, .slice none 0 0] 80)).ownsRow w0.heap.size 80 4 (.slice (some ⟨w0.heap.size, 0, none⟩) 1 1) 1 (flatA [⟨1, t⟩]) := World.ownsRow_lit w0 #[.int .i64 1, .string t, .bool false, .slice none 0 0] 1 (Nat.le_refl _) (by decide) rfl
  have O := Lib.hid o0
  have B := Lib.hid b0
  have hsz : w0.heap.size ≤ (w0.alloc (.cells #[.int .i64 1, .string t, .bool false, .slice none 0 0] 80)).heap.size := by simp
  clear b0 o0
  have hte : s ++ ⟨#[33]⟩ = t := HT.out.symm
  obtain ⟨A1, c1, W1, run1, o1, bb1, hs1⟩ := acl_app O.out hsz B.out (by decide) 6 5
  have RUN1 := Lib.hid run1
  have O := Lib.hid o1
  have B := Lib.hid bb1
  clear run1 o1 bb1 hsz
  have hsz := hs1
  obtain ⟨A2, c2, W2, run2, o2, bb2, hs2⟩ := acl_app O.out hsz B.out (by decide) 5 6
  have RUN2 := Lib.hid run2
  have O := Lib.hid o2
  have B := Lib.hid bb2
  clear run2 o2 bb2 hsz
  have hsz := hs2
  rw [show (w0.alloc (.cells #[.int .i64 1, .string t, .bool false, .slice none 0 0] 80)).heap.size = w0.heap.size + 1 by simp] at RUN1
  have hA : AClsAt W2 A2 5 (endsOf t true true) := acl_of O.out rfl (by decide)
  have C := Lib.hid (compile_any hA (ends_spok t HTS.out true true) c2)
  clear hA
  go_wp2_with (first | (at_builtin; refine wpList_append_run rfl (.tmp 28) (.tmp 31) 76 rfl _ _ _ rfl rfl RUN1.out ?_) | (at_builtin; refine wpList_append_run rfl (.tmp 34) (.tmp 37) 76 rfl _ _ _ rfl rfl RUN2.out ?_))
  refine C.out.mono ?_
  rintro e w1 ⟨A9, c9, Z, rfl, hcl, hz, b1⟩
  have HCL := Lib.hid hcl
  have HZ := Lib.hid hz
  have HB1 := Lib.hid b1
  obtain ⟨cb, W5, hcv, hby, b5, hs5⟩ := bytes_of9 w1 s
  have b6 := (Below.refl W5.heap.size W5).alloc (Nat.le_refl _) (.cells #[.int .i64 1, .slice (some ⟨w1.heap.size, 0, none⟩) s.size cb] 103)
  have hch : ArgCh (W5.alloc (.cells #[.int .i64 1, .slice (some ⟨w1.heap.size, 0, none⟩) s.size cb] 103)) (some ⟨w1.heap.size + 1, 0, none⟩) 1 [⟨1, some ⟨w1.heap.size, 0, none⟩, s.size, cb, s.data.toList⟩] := by
    have hb := Blk.new W5 103 #[.int .i64 1, .slice (some ⟨w1.heap.size, 0, none⟩) s.size cb]
    rw [hs5] at hb
    refine ⟨rfl, by decide, fun k hk => ?_, fun _ => ⟨w1.heap.size + 1, 0, rfl, hb.lt, fun i k hi => ?_⟩⟩
    · rcases List.mem_cons.1 hk with rfl | hk
      · exact ⟨hby.below b6, by show s.size ≤ _; omega⟩
      · cases hk
    · match i, hi with
      | 0, hi => simp at hi; subst hi; exact ⟨hb.cell 0, hb.cell 1⟩
      | i + 1, hi => simp at hi
  have C2 := Lib.hid (show Calls _ _ _ _ (OpenP _ ⟨[(1, s.data.toList)], 1, 2, 0, 0, []⟩) from open_any (c := 1) (1) 2 hch)
  have B2 := Lib.hid (b5.trans (b6.mono (by omega)))
  clear hcl hz b1 hch C hby b5 b6
  go_wp2_with fail
  refine C2.out.mono ?_
  rintro e w2 ⟨lp, X, R, rfl, hl⟩
  have HL := Lib.hid hl
  have B02 := Lib.hid (((B.out.trans (HB1.out.mono hsz)).trans (B2.out.mono (Nat.le_trans hsz HB1.out.size))).trans (hl.old.mono (by have := HB1.out.size; have := B2.out.size; omega)))
  have C3 := Lib.hid (bs_new (w0 := w0) 200 w2 B02.out)
  clear hl C2
  go_wp2_with fail
  refine C3.out.mono ?_
  rintro e w3 ⟨rfl, hb, b3, -⟩
  have HT := Lib.hid (ts_make (gone := 0) (most := 200) B.out HCL.out HZ.out B2.out HL.out HB1.out hb b3)
  have HW := Lib.hid BA.out.size
  have EO := Lib.hid (ends_okOf s t HTL.out true true 1 (by decide))
  have hsl : s.data.toList.length ≤ 100 := hs
  clear hb b3 C3 hcv
  go_wp2_with fail
  go_loopw [16] (fun i wr => ∃ j : Nat, j ≤ 3 ∧ i = .int .i64 (j : Nat) ∧ ∃ Y, (j = 0 ∧ TS w0 wr lp w2.heap.size X R Y A9 5 ((endsOf t true true).map clOf) Z ⟨[(1, s.data.toList)], 1, 2, 0, 0, []⟩ [] 200 0) ∨ (1 ≤ j ∧ TS w0 wr lp w2.heap.size X R Y A9 5 ((endsOf t true true).map clOf) Z ⟨[], 1, 2, 1, 3, []⟩ s.data.toList 200 0)) (fun i _ => 3 - (intOf i).toNat)
  case atStart => exact ⟨0, Nat.zero_le _, rfl, _, .inl ⟨rfl, HT.out⟩⟩
  case round =>
    obtain ⟨j, hj, rfl, Y, hT⟩ := hrel
    by_cases hlt : j < 3
    · have hlt' : (j : Int) < 3 := by omega
      rcases hT with ⟨rfl, ht⟩ | ⟨hj1, ht⟩
      · have C := wait_any ht c9 100 1000 3 (ends_ok1 _ _ _ hsl) (by decide) (by decide)
        rw [ends_first EO.out hsl] at C
        have C := Lib.hid C
        go_wp2_with fail
        refine C.out.mono ?_
        rintro e w4 h4
        obtain ⟨Y4, D4, m4, d4, rfl, -, -, t4, -, -⟩ := h4.open_
        have ba4 := (Below.refl w4.heap.size w4).alloc (Nat.le_refl _) (.cells #[.int .i64 3, .int .i64 (2), .slice D4 m4 d4, .int .i64 0] 105)
        have T4 := Lib.hid (t4.below ba4)
        have N4 := Lib.hid (show Calls _ _ _ _ (fun e w' => e = .returned (.int .i64 3) ∧ w' = _) from T4.out.line.now_)
        have CB := Lib.hid T4.out.buf.bytes
        clear h4 t4 ba4 C ht
        go_wp2_with fail
        refine N4.out.mono ?_
        rintro e w4' ⟨rfl, rfl⟩
        go_wp2_with fail
        refine CB.out.mono ?_
        rintro e w6 ⟨A6, c6, rfl, r6, -, b6⟩
        have hst6 : (convert 52 9 (.slice A6 s.size c6)).run Try.prog w6 = .ok (.string s) w6 := by
          have := conv_str r6.bytes c6
          rwa [show (⟨s.data.toList.toArray⟩ : ByteArray) = s by cases s; simp] at this
        have T6 := Lib.hid (T4.out.below b6)
        clear r6 b6 CB N4
        go_wp2
        go_roundw
        case rel => exact ⟨0 + 1, by omega, by go_num, Y4, .inr ⟨by omega, by simpa using T6.out⟩⟩
        case measure => simp [intOf] <;> omega
      · have C := wait_any ht c9 100 1000 3 (ends_ok2 _ _ _ hsl) (by decide) (by decide)
        rw [ends_tail EO.out 2 false 3 (by decide) _ rfl] at C
        have C := Lib.hid C
        go_wp2_with fail
        refine C.out.mono ?_
        rintro e w4 h4
        obtain ⟨Y4, D4, m4, d4, rfl, -, -, t4, -, -⟩ := h4.open_
        have ba4 := (Below.refl w4.heap.size w4).alloc (Nat.le_refl _) (.cells #[.int .i64 3, .int .i64 (2), .slice D4 m4 d4, .int .i64 0] 105)
        have T4 := Lib.hid (t4.below ba4)
        have N4 := Lib.hid (show Calls _ _ _ _ (fun e w' => e = .returned (.int .i64 3) ∧ w' = _) from T4.out.line.now_)
        have CB := Lib.hid T4.out.buf.bytes
        clear h4 t4 ba4 C ht
        go_wp2_with fail
        refine N4.out.mono ?_
        rintro e w4' ⟨rfl, rfl⟩
        go_wp2_with fail
        refine CB.out.mono ?_
        rintro e w6 ⟨A6, c6, rfl, r6, -, b6⟩
        have hst6 : (convert 52 9 (.slice A6 s.size c6)).run Try.prog w6 = .ok (.string s) w6 := by
          have := conv_str r6.bytes c6
          rwa [show (⟨s.data.toList.toArray⟩ : ByteArray) = s by cases s; simp] at this
        have T6 := Lib.hid (T4.out.below b6)
        clear r6 b6 CB N4
        go_wp2
        go_roundw
        case rel => exact ⟨j + 1, by omega, by go_num, Y4, .inr ⟨by omega, by simpa using T6.out⟩⟩
        case measure => simp [intOf] <;> omega
    · have hlt' : ¬ (j : Int) < 3 := by omega
      have FIN := Lib.hid (show Below w.heap.size w wr from by
        rcases hT with ⟨_, ht⟩ | ⟨_, ht⟩
        · exact BA.out.trans (ht.line.old.mono HW.out)
        · exact BA.out.trans (ht.line.old.mono HW.out))
      clear hT
      go_wp2
      go_ret
      exact ⟨rfl, FIN.out⟩
set_option maxHeartbeats 8000000 in
set_option maxRecDepth 100000 in
theorem ends_ht1 {w : World} (en : Int) (s : ByteArray) (hs : s.size ≤ 100) (hev : bits BinOp.and IntKind.i64 en 1 = 1) : Calls Try.prog 13 #[.int .i64 en, .bool true, .bool true, .string s] w (EndP w) := by
  have hov : ¬ 9223372036854775807 < s.size + 1 := by omega
  have h100 : decide ((100 : Int) < (s.size : Int)) = false := by rw [decide_eq_false_iff_not]; omega
  have h100b : ¬ (100 : Int) < (s.size : Int) := by omega
  have hwr : IntKind.i64.wrap 2 = 2 := by decide
  obtain ⟨t, ht⟩ : ∃ t, t = s ++ ⟨#[33]⟩ := ⟨_, rfl⟩
  have htl : t.data.toList = s.data.toList ++ [33] := by rw [ht]; simp
  have hts : t.size ≤ 256 := by have : t.size = t.data.toList.length := rfl; rw [this, htl, List.length_append]; show s.size + 1 ≤ 256; omega
  have HTL := Lib.hid htl
  have HTS := Lib.hid hts
  have HT := Lib.hid ht
  clear ht htl hts
  go_enter Try.func13, Try.ntmps13
  go_wp2_with fail
  refine (talive_any _).mono ?_
  rintro e w0 ⟨rfl, ba⟩
  have BA := Lib.hid ba
  clear ba
  have b0 := (Below.refl w0.heap.size w0).alloc (Nat.le_refl _) (.cells #[.int .i64 1, .string t, .bool false, .slice none 0 0] 80)
  have o0 : (w0.alloc (.cells #[.int .i64 1, .string t, .bool false, .slice none 0 0] 80)).ownsRow w0.heap.size 80 4 (.slice (some ⟨w0.heap.size, 0, none⟩) 1 1) 1 (flatA [⟨1, t⟩]) := World.ownsRow_lit w0 #[.int .i64 1, .string t, .bool false, .slice none 0 0] 1 (Nat.le_refl _) (by decide) rfl
  have O := Lib.hid o0
  have B := Lib.hid b0
  have hsz : w0.heap.size ≤ (w0.alloc (.cells #[.int .i64 1, .string t, .bool false, .slice none 0 0] 80)).heap.size := by simp
  clear b0 o0
  have hte : s ++ ⟨#[33]⟩ = t := HT.out.symm
  obtain ⟨A1, c1, W1, run1, o1, bb1, hs1⟩ := acl_app O.out hsz B.out (by decide) 6 5
  have RUN1 := Lib.hid run1
  have O := Lib.hid o1
  have B := Lib.hid bb1
  clear run1 o1 bb1 hsz
  have hsz := hs1
  obtain ⟨A2, c2, W2, run2, o2, bb2, hs2⟩ := acl_app O.out hsz B.out (by decide) 5 6
  have RUN2 := Lib.hid run2
  have O := Lib.hid o2
  have B := Lib.hid bb2
  clear run2 o2 bb2 hsz
  have hsz := hs2
  rw [show (w0.alloc (.cells #[.int .i64 1, .string t, .bool false, .slice none 0 0] 80)).heap.size = w0.heap.size + 1 by simp] at RUN1
  have hA : AClsAt W2 A2 5 (endsOf t true true) := acl_of O.out rfl (by decide)
  have C := Lib.hid (compile_any hA (ends_spok t HTS.out true true) c2)
  clear hA
  go_wp2_with (first | (at_builtin; refine wpList_append_run rfl (.tmp 28) (.tmp 31) 76 rfl _ _ _ rfl rfl RUN1.out ?_) | (at_builtin; refine wpList_append_run rfl (.tmp 34) (.tmp 37) 76 rfl _ _ _ rfl rfl RUN2.out ?_))
  refine C.out.mono ?_
  rintro e w1 ⟨A9, c9, Z, rfl, hcl, hz, b1⟩
  have HCL := Lib.hid hcl
  have HZ := Lib.hid hz
  have HB1 := Lib.hid b1
  obtain ⟨cb, W5, hcv, hby, b5, hs5⟩ := bytes_of9 w1 s
  have b6 := (Below.refl W5.heap.size W5).alloc (Nat.le_refl _) (.cells #[.int .i64 1, .slice (some ⟨w1.heap.size, 0, none⟩) s.size cb] 103)
  have hch : ArgCh (W5.alloc (.cells #[.int .i64 1, .slice (some ⟨w1.heap.size, 0, none⟩) s.size cb] 103)) (some ⟨w1.heap.size + 1, 0, none⟩) 1 [⟨1, some ⟨w1.heap.size, 0, none⟩, s.size, cb, s.data.toList⟩] := by
    have hb := Blk.new W5 103 #[.int .i64 1, .slice (some ⟨w1.heap.size, 0, none⟩) s.size cb]
    rw [hs5] at hb
    refine ⟨rfl, by decide, fun k hk => ?_, fun _ => ⟨w1.heap.size + 1, 0, rfl, hb.lt, fun i k hi => ?_⟩⟩
    · rcases List.mem_cons.1 hk with rfl | hk
      · exact ⟨hby.below b6, by show s.size ≤ _; omega⟩
      · cases hk
    · match i, hi with
      | 0, hi => simp at hi; subst hi; exact ⟨hb.cell 0, hb.cell 1⟩
      | i + 1, hi => simp at hi
  have C2 := Lib.hid (show Calls _ _ _ _ (OpenP _ ⟨[(1, s.data.toList)], 2, 2, 0, 0, []⟩) from open_any (c := 1) (2) 2 hch)
  have B2 := Lib.hid (b5.trans (b6.mono (by omega)))
  clear hcl hz b1 hch C hby b5 b6
  go_wp2_with fail
  refine C2.out.mono ?_
  rintro e w2 ⟨lp, X, R, rfl, hl⟩
  have HL := Lib.hid hl
  have B02 := Lib.hid (((B.out.trans (HB1.out.mono hsz)).trans (B2.out.mono (Nat.le_trans hsz HB1.out.size))).trans (hl.old.mono (by have := HB1.out.size; have := B2.out.size; omega)))
  have C3 := Lib.hid (bs_new (w0 := w0) 200 w2 B02.out)
  clear hl C2
  go_wp2_with fail
  refine C3.out.mono ?_
  rintro e w3 ⟨rfl, hb, b3, -⟩
  have HT := Lib.hid (ts_make (gone := 0) (most := 200) B.out HCL.out HZ.out B2.out HL.out HB1.out hb b3)
  have HW := Lib.hid BA.out.size
  have EO := Lib.hid (ends_okOf s t HTL.out true true 2 (by decide))
  have hsl : s.data.toList.length ≤ 100 := hs
  clear hb b3 C3 hcv
  go_wp2_with fail
  go_loopw [16] (fun i wr => ∃ j : Nat, j ≤ 3 ∧ i = .int .i64 (j : Nat) ∧ ∃ Y, (j = 0 ∧ TS w0 wr lp w2.heap.size X R Y A9 5 ((endsOf t true true).map clOf) Z ⟨[(1, s.data.toList)], 2, 2, 0, 0, []⟩ [] 200 0) ∨ (1 ≤ j ∧ TS w0 wr lp w2.heap.size X R Y A9 5 ((endsOf t true true).map clOf) Z ⟨[], 2, 2, 1, 3, []⟩ s.data.toList 200 0)) (fun i _ => 3 - (intOf i).toNat)
  case atStart => exact ⟨0, Nat.zero_le _, rfl, _, .inl ⟨rfl, HT.out⟩⟩
  case round =>
    obtain ⟨j, hj, rfl, Y, hT⟩ := hrel
    by_cases hlt : j < 3
    · have hlt' : (j : Int) < 3 := by omega
      rcases hT with ⟨rfl, ht⟩ | ⟨hj1, ht⟩
      · have C := wait_any ht c9 100 1000 3 (ends_ok1 _ _ _ hsl) (by decide) (by decide)
        rw [ends_first EO.out hsl] at C
        have C := Lib.hid C
        go_wp2_with fail
        refine C.out.mono ?_
        rintro e w4 h4
        obtain ⟨Y4, D4, m4, d4, rfl, -, -, t4, -, -⟩ := h4.open_
        have ba4 := (Below.refl w4.heap.size w4).alloc (Nat.le_refl _) (.cells #[.int .i64 4, .int .i64 (1), .slice D4 m4 d4, .int .i64 0] 105)
        have T4 := Lib.hid (t4.below ba4)
        have N4 := Lib.hid (show Calls _ _ _ _ (fun e w' => e = .returned (.int .i64 3) ∧ w' = _) from T4.out.line.now_)
        have CB := Lib.hid T4.out.buf.bytes
        clear h4 t4 ba4 C ht
        go_wp2_with fail
        refine N4.out.mono ?_
        rintro e w4' ⟨rfl, rfl⟩
        go_wp2_with fail
        refine CB.out.mono ?_
        rintro e w6 ⟨A6, c6, rfl, r6, -, b6⟩
        have hst6 : (convert 52 9 (.slice A6 s.size c6)).run Try.prog w6 = .ok (.string s) w6 := by
          have := conv_str r6.bytes c6
          rwa [show (⟨s.data.toList.toArray⟩ : ByteArray) = s by cases s; simp] at this
        have T6 := Lib.hid (T4.out.below b6)
        clear r6 b6 CB N4
        go_wp2
        go_roundw
        case rel => exact ⟨0 + 1, by omega, by go_num, Y4, .inr ⟨by omega, by simpa using T6.out⟩⟩
        case measure => simp [intOf] <;> omega
      · have C := wait_any ht c9 100 1000 3 (ends_ok2 _ _ _ hsl) (by decide) (by decide)
        rw [ends_tail EO.out 2 false 3 (by decide) _ rfl] at C
        have C := Lib.hid C
        go_wp2_with fail
        refine C.out.mono ?_
        rintro e w4 h4
        obtain ⟨Y4, D4, m4, d4, rfl, -, -, t4, -, -⟩ := h4.open_
        have ba4 := (Below.refl w4.heap.size w4).alloc (Nat.le_refl _) (.cells #[.int .i64 4, .int .i64 (1), .slice D4 m4 d4, .int .i64 0] 105)
        have T4 := Lib.hid (t4.below ba4)
        have N4 := Lib.hid (show Calls _ _ _ _ (fun e w' => e = .returned (.int .i64 3) ∧ w' = _) from T4.out.line.now_)
        have CB := Lib.hid T4.out.buf.bytes
        clear h4 t4 ba4 C ht
        go_wp2_with fail
        refine N4.out.mono ?_
        rintro e w4' ⟨rfl, rfl⟩
        go_wp2_with fail
        refine CB.out.mono ?_
        rintro e w6 ⟨A6, c6, rfl, r6, -, b6⟩
        have hst6 : (convert 52 9 (.slice A6 s.size c6)).run Try.prog w6 = .ok (.string s) w6 := by
          have := conv_str r6.bytes c6
          rwa [show (⟨s.data.toList.toArray⟩ : ByteArray) = s by cases s; simp] at this
        have T6 := Lib.hid (T4.out.below b6)
        clear r6 b6 CB N4
        go_wp2
        go_roundw
        case rel => exact ⟨j + 1, by omega, by go_num, Y4, .inr ⟨by omega, by simpa using T6.out⟩⟩
        case measure => simp [intOf] <;> omega
    · have hlt' : ¬ (j : Int) < 3 := by omega
      have FIN := Lib.hid (show Below w.heap.size w wr from by
        rcases hT with ⟨_, ht⟩ | ⟨_, ht⟩
        · exact BA.out.trans (ht.line.old.mono HW.out)
        · exact BA.out.trans (ht.line.old.mono HW.out))
      clear hT
      go_wp2
      go_ret
      exact ⟨rfl, FIN.out⟩
set_option maxHeartbeats 8000000 in
set_option maxRecDepth 100000 in
theorem ends_hn0 {w : World} (en : Int) (s : ByteArray) (hs : s.size ≤ 100) (hev : bits BinOp.and IntKind.i64 en 1 = 0) : Calls Try.prog 13 #[.int .i64 en, .bool true, .bool false, .string s] w (EndP w) := by
  have hov : ¬ 9223372036854775807 < s.size + 1 := by omega
  have h100 : decide ((100 : Int) < (s.size : Int)) = false := by rw [decide_eq_false_iff_not]; omega
  have h100b : ¬ (100 : Int) < (s.size : Int) := by omega
  have hwr : IntKind.i64.wrap 1 = 1 := by decide
  obtain ⟨t, ht⟩ : ∃ t, t = s ++ ⟨#[33]⟩ := ⟨_, rfl⟩
  have htl : t.data.toList = s.data.toList ++ [33] := by rw [ht]; simp
  have hts : t.size ≤ 256 := by have : t.size = t.data.toList.length := rfl; rw [this, htl, List.length_append]; show s.size + 1 ≤ 256; omega
  have HTL := Lib.hid htl
  have HTS := Lib.hid hts
  have HT := Lib.hid ht
  clear ht htl hts
  go_enter Try.func13, Try.ntmps13
  go_wp2_with fail
  refine (talive_any _).mono ?_
  rintro e w0 ⟨rfl, ba⟩
  have BA := Lib.hid ba
  clear ba
  have b0 := (Below.refl w0.heap.size w0).alloc (Nat.le_refl _) (.cells #[.int .i64 1, .string t, .bool false, .slice none 0 0] 80)
  have o0 : (w0.alloc (.cells #[.int .i64 1, .string t, .bool false, .slice none 0 0] 80)).ownsRow w0.heap.size 80 4 (.slice (some ⟨w0.heap.size, 0, none⟩) 1 1) 1 (flatA [⟨1, t⟩]) := World.ownsRow_lit w0 #[.int .i64 1, .string t, .bool false, .slice none 0 0] 1 (Nat.le_refl _) (by decide) rfl
  have O := Lib.hid o0
  have B := Lib.hid b0
  have hsz : w0.heap.size ≤ (w0.alloc (.cells #[.int .i64 1, .string t, .bool false, .slice none 0 0] 80)).heap.size := by simp
  clear b0 o0
  have hte : s ++ ⟨#[33]⟩ = t := HT.out.symm
  obtain ⟨A1, c1, W1, run1, o1, bb1, hs1⟩ := acl_app O.out hsz B.out (by decide) 6 5
  have RUN1 := Lib.hid run1
  have O := Lib.hid o1
  have B := Lib.hid bb1
  clear run1 o1 bb1 hsz
  have hsz := hs1
  rw [show (w0.alloc (.cells #[.int .i64 1, .string t, .bool false, .slice none 0 0] 80)).heap.size = w0.heap.size + 1 by simp] at RUN1
  have hA : AClsAt W1 A1 3 (endsOf t true false) := acl_of O.out rfl (by decide)
  have C := Lib.hid (compile_any hA (ends_spok t HTS.out true false) c1)
  clear hA
  go_wp2_with (first | (at_builtin; refine wpList_append_run rfl (.tmp 28) (.tmp 31) 76 rfl _ _ _ rfl rfl RUN1.out ?_))
  refine C.out.mono ?_
  rintro e w1 ⟨A9, c9, Z, rfl, hcl, hz, b1⟩
  have HCL := Lib.hid hcl
  have HZ := Lib.hid hz
  have HB1 := Lib.hid b1
  obtain ⟨cb, W5, hcv, hby, b5, hs5⟩ := bytes_of9 w1 s
  have b6 := (Below.refl W5.heap.size W5).alloc (Nat.le_refl _) (.cells #[.int .i64 1, .slice (some ⟨w1.heap.size, 0, none⟩) s.size cb] 103)
  have hch : ArgCh (W5.alloc (.cells #[.int .i64 1, .slice (some ⟨w1.heap.size, 0, none⟩) s.size cb] 103)) (some ⟨w1.heap.size + 1, 0, none⟩) 1 [⟨1, some ⟨w1.heap.size, 0, none⟩, s.size, cb, s.data.toList⟩] := by
    have hb := Blk.new W5 103 #[.int .i64 1, .slice (some ⟨w1.heap.size, 0, none⟩) s.size cb]
    rw [hs5] at hb
    refine ⟨rfl, by decide, fun k hk => ?_, fun _ => ⟨w1.heap.size + 1, 0, rfl, hb.lt, fun i k hi => ?_⟩⟩
    · rcases List.mem_cons.1 hk with rfl | hk
      · exact ⟨hby.below b6, by show s.size ≤ _; omega⟩
      · cases hk
    · match i, hi with
      | 0, hi => simp at hi; subst hi; exact ⟨hb.cell 0, hb.cell 1⟩
      | i + 1, hi => simp at hi
  have C2 := Lib.hid (show Calls _ _ _ _ (OpenP _ ⟨[(1, s.data.toList)], 1, 2, 0, 0, []⟩) from open_any (c := 1) (1) 2 hch)
  have B2 := Lib.hid (b5.trans (b6.mono (by omega)))
  clear hcl hz b1 hch C hby b5 b6
  go_wp2_with fail
  refine C2.out.mono ?_
  rintro e w2 ⟨lp, X, R, rfl, hl⟩
  have HL := Lib.hid hl
  have B02 := Lib.hid (((B.out.trans (HB1.out.mono hsz)).trans (B2.out.mono (Nat.le_trans hsz HB1.out.size))).trans (hl.old.mono (by have := HB1.out.size; have := B2.out.size; omega)))
  have C3 := Lib.hid (bs_new (w0 := w0) 200 w2 B02.out)
  clear hl C2
  go_wp2_with fail
  refine C3.out.mono ?_
  rintro e w3 ⟨rfl, hb, b3, -⟩
  have HT := Lib.hid (ts_make (gone := 0) (most := 200) B.out HCL.out HZ.out B2.out HL.out HB1.out hb b3)
  have HW := Lib.hid BA.out.size
  have EO := Lib.hid (ends_okOf s t HTL.out true false 1 (by decide))
  have hsl : s.data.toList.length ≤ 100 := hs
  clear hb b3 C3 hcv
  go_wp2_with fail
  go_loopw [16] (fun i wr => ∃ j : Nat, j ≤ 3 ∧ i = .int .i64 (j : Nat) ∧ ∃ Y, (j = 0 ∧ TS w0 wr lp w2.heap.size X R Y A9 3 ((endsOf t true false).map clOf) Z ⟨[(1, s.data.toList)], 1, 2, 0, 0, []⟩ [] 200 0) ∨ (1 ≤ j ∧ TS w0 wr lp w2.heap.size X R Y A9 3 ((endsOf t true false).map clOf) Z ⟨[], 1, 2, 1, 3, []⟩ s.data.toList 200 0)) (fun i _ => 3 - (intOf i).toNat)
  case atStart => exact ⟨0, Nat.zero_le _, rfl, _, .inl ⟨rfl, HT.out⟩⟩
  case round =>
    obtain ⟨j, hj, rfl, Y, hT⟩ := hrel
    by_cases hlt : j < 3
    · have hlt' : (j : Int) < 3 := by omega
      rcases hT with ⟨rfl, ht⟩ | ⟨hj1, ht⟩
      · have C := wait_any ht c9 100 1000 3 (ends_ok1 _ _ _ hsl) (by decide) (by decide)
        rw [ends_first EO.out hsl] at C
        have C := Lib.hid C
        go_wp2_with fail
        refine C.out.mono ?_
        rintro e w4 h4
        obtain ⟨Y4, D4, m4, d4, rfl, -, -, t4, -, -⟩ := h4.open_
        have ba4 := (Below.refl w4.heap.size w4).alloc (Nat.le_refl _) (.cells #[.int .i64 3, .int .i64 (2), .slice D4 m4 d4, .int .i64 0] 105)
        have T4 := Lib.hid (t4.below ba4)
        have N4 := Lib.hid (show Calls _ _ _ _ (fun e w' => e = .returned (.int .i64 3) ∧ w' = _) from T4.out.line.now_)
        have CB := Lib.hid T4.out.buf.bytes
        clear h4 t4 ba4 C ht
        go_wp2_with fail
        refine N4.out.mono ?_
        rintro e w4' ⟨rfl, rfl⟩
        go_wp2_with fail
        refine CB.out.mono ?_
        rintro e w6 ⟨A6, c6, rfl, r6, -, b6⟩
        have hst6 : (convert 52 9 (.slice A6 s.size c6)).run Try.prog w6 = .ok (.string s) w6 := by
          have := conv_str r6.bytes c6
          rwa [show (⟨s.data.toList.toArray⟩ : ByteArray) = s by cases s; simp] at this
        have T6 := Lib.hid (T4.out.below b6)
        clear r6 b6 CB N4
        go_wp2
        go_roundw
        case rel => exact ⟨0 + 1, by omega, by go_num, Y4, .inr ⟨by omega, by simpa using T6.out⟩⟩
        case measure => simp [intOf] <;> omega
      · have C := wait_any ht c9 100 1000 3 (ends_ok2 _ _ _ hsl) (by decide) (by decide)
        rw [ends_tail EO.out 2 false 3 (by decide) _ rfl] at C
        have C := Lib.hid C
        go_wp2_with fail
        refine C.out.mono ?_
        rintro e w4 h4
        obtain ⟨Y4, D4, m4, d4, rfl, -, -, t4, -, -⟩ := h4.open_
        have ba4 := (Below.refl w4.heap.size w4).alloc (Nat.le_refl _) (.cells #[.int .i64 3, .int .i64 (2), .slice D4 m4 d4, .int .i64 0] 105)
        have T4 := Lib.hid (t4.below ba4)
        have N4 := Lib.hid (show Calls _ _ _ _ (fun e w' => e = .returned (.int .i64 3) ∧ w' = _) from T4.out.line.now_)
        have CB := Lib.hid T4.out.buf.bytes
        clear h4 t4 ba4 C ht
        go_wp2_with fail
        refine N4.out.mono ?_
        rintro e w4' ⟨rfl, rfl⟩
        go_wp2_with fail
        refine CB.out.mono ?_
        rintro e w6 ⟨A6, c6, rfl, r6, -, b6⟩
        have hst6 : (convert 52 9 (.slice A6 s.size c6)).run Try.prog w6 = .ok (.string s) w6 := by
          have := conv_str r6.bytes c6
          rwa [show (⟨s.data.toList.toArray⟩ : ByteArray) = s by cases s; simp] at this
        have T6 := Lib.hid (T4.out.below b6)
        clear r6 b6 CB N4
        go_wp2
        go_roundw
        case rel => exact ⟨j + 1, by omega, by go_num, Y4, .inr ⟨by omega, by simpa using T6.out⟩⟩
        case measure => simp [intOf] <;> omega
    · have hlt' : ¬ (j : Int) < 3 := by omega
      have FIN := Lib.hid (show Below w.heap.size w wr from by
        rcases hT with ⟨_, ht⟩ | ⟨_, ht⟩
        · exact BA.out.trans (ht.line.old.mono HW.out)
        · exact BA.out.trans (ht.line.old.mono HW.out))
      clear hT
      go_wp2
      go_ret
      exact ⟨rfl, FIN.out⟩
set_option maxHeartbeats 8000000 in
set_option maxRecDepth 100000 in
theorem ends_hn1 {w : World} (en : Int) (s : ByteArray) (hs : s.size ≤ 100) (hev : bits BinOp.and IntKind.i64 en 1 = 1) : Calls Try.prog 13 #[.int .i64 en, .bool true, .bool false, .string s] w (EndP w) := by
  have hov : ¬ 9223372036854775807 < s.size + 1 := by omega
  have h100 : decide ((100 : Int) < (s.size : Int)) = false := by rw [decide_eq_false_iff_not]; omega
  have h100b : ¬ (100 : Int) < (s.size : Int) := by omega
  have hwr : IntKind.i64.wrap 2 = 2 := by decide
  obtain ⟨t, ht⟩ : ∃ t, t = s ++ ⟨#[33]⟩ := ⟨_, rfl⟩
  have htl : t.data.toList = s.data.toList ++ [33] := by rw [ht]; simp
  have hts : t.size ≤ 256 := by have : t.size = t.data.toList.length := rfl; rw [this, htl, List.length_append]; show s.size + 1 ≤ 256; omega
  have HTL := Lib.hid htl
  have HTS := Lib.hid hts
  have HT := Lib.hid ht
  clear ht htl hts
  go_enter Try.func13, Try.ntmps13
  go_wp2_with fail
  refine (talive_any _).mono ?_
  rintro e w0 ⟨rfl, ba⟩
  have BA := Lib.hid ba
  clear ba
  have b0 := (Below.refl w0.heap.size w0).alloc (Nat.le_refl _) (.cells #[.int .i64 1, .string t, .bool false, .slice none 0 0] 80)
  have o0 : (w0.alloc (.cells #[.int .i64 1, .string t, .bool false, .slice none 0 0] 80)).ownsRow w0.heap.size 80 4 (.slice (some ⟨w0.heap.size, 0, none⟩) 1 1) 1 (flatA [⟨1, t⟩]) := World.ownsRow_lit w0 #[.int .i64 1, .string t, .bool false, .slice none 0 0] 1 (Nat.le_refl _) (by decide) rfl
  have O := Lib.hid o0
  have B := Lib.hid b0
  have hsz : w0.heap.size ≤ (w0.alloc (.cells #[.int .i64 1, .string t, .bool false, .slice none 0 0] 80)).heap.size := by simp
  clear b0 o0
  have hte : s ++ ⟨#[33]⟩ = t := HT.out.symm
  obtain ⟨A1, c1, W1, run1, o1, bb1, hs1⟩ := acl_app O.out hsz B.out (by decide) 6 5
  have RUN1 := Lib.hid run1
  have O := Lib.hid o1
  have B := Lib.hid bb1
  clear run1 o1 bb1 hsz
  have hsz := hs1
  rw [show (w0.alloc (.cells #[.int .i64 1, .string t, .bool false, .slice none 0 0] 80)).heap.size = w0.heap.size + 1 by simp] at RUN1
  have hA : AClsAt W1 A1 3 (endsOf t true false) := acl_of O.out rfl (by decide)
  have C := Lib.hid (compile_any hA (ends_spok t HTS.out true false) c1)
  clear hA
  go_wp2_with (first | (at_builtin; refine wpList_append_run rfl (.tmp 28) (.tmp 31) 76 rfl _ _ _ rfl rfl RUN1.out ?_))
  refine C.out.mono ?_
  rintro e w1 ⟨A9, c9, Z, rfl, hcl, hz, b1⟩
  have HCL := Lib.hid hcl
  have HZ := Lib.hid hz
  have HB1 := Lib.hid b1
  obtain ⟨cb, W5, hcv, hby, b5, hs5⟩ := bytes_of9 w1 s
  have b6 := (Below.refl W5.heap.size W5).alloc (Nat.le_refl _) (.cells #[.int .i64 1, .slice (some ⟨w1.heap.size, 0, none⟩) s.size cb] 103)
  have hch : ArgCh (W5.alloc (.cells #[.int .i64 1, .slice (some ⟨w1.heap.size, 0, none⟩) s.size cb] 103)) (some ⟨w1.heap.size + 1, 0, none⟩) 1 [⟨1, some ⟨w1.heap.size, 0, none⟩, s.size, cb, s.data.toList⟩] := by
    have hb := Blk.new W5 103 #[.int .i64 1, .slice (some ⟨w1.heap.size, 0, none⟩) s.size cb]
    rw [hs5] at hb
    refine ⟨rfl, by decide, fun k hk => ?_, fun _ => ⟨w1.heap.size + 1, 0, rfl, hb.lt, fun i k hi => ?_⟩⟩
    · rcases List.mem_cons.1 hk with rfl | hk
      · exact ⟨hby.below b6, by show s.size ≤ _; omega⟩
      · cases hk
    · match i, hi with
      | 0, hi => simp at hi; subst hi; exact ⟨hb.cell 0, hb.cell 1⟩
      | i + 1, hi => simp at hi
  have C2 := Lib.hid (show Calls _ _ _ _ (OpenP _ ⟨[(1, s.data.toList)], 2, 2, 0, 0, []⟩) from open_any (c := 1) (2) 2 hch)
  have B2 := Lib.hid (b5.trans (b6.mono (by omega)))
  clear hcl hz b1 hch C hby b5 b6
  go_wp2_with fail
  refine C2.out.mono ?_
  rintro e w2 ⟨lp, X, R, rfl, hl⟩
  have HL := Lib.hid hl
  have B02 := Lib.hid (((B.out.trans (HB1.out.mono hsz)).trans (B2.out.mono (Nat.le_trans hsz HB1.out.size))).trans (hl.old.mono (by have := HB1.out.size; have := B2.out.size; omega)))
  have C3 := Lib.hid (bs_new (w0 := w0) 200 w2 B02.out)
  clear hl C2
  go_wp2_with fail
  refine C3.out.mono ?_
  rintro e w3 ⟨rfl, hb, b3, -⟩
  have HT := Lib.hid (ts_make (gone := 0) (most := 200) B.out HCL.out HZ.out B2.out HL.out HB1.out hb b3)
  have HW := Lib.hid BA.out.size
  have EO := Lib.hid (ends_okOf s t HTL.out true false 2 (by decide))
  have hsl : s.data.toList.length ≤ 100 := hs
  clear hb b3 C3 hcv
  go_wp2_with fail
  go_loopw [16] (fun i wr => ∃ j : Nat, j ≤ 3 ∧ i = .int .i64 (j : Nat) ∧ ∃ Y, (j = 0 ∧ TS w0 wr lp w2.heap.size X R Y A9 3 ((endsOf t true false).map clOf) Z ⟨[(1, s.data.toList)], 2, 2, 0, 0, []⟩ [] 200 0) ∨ (1 ≤ j ∧ TS w0 wr lp w2.heap.size X R Y A9 3 ((endsOf t true false).map clOf) Z ⟨[], 2, 2, 1, 3, []⟩ s.data.toList 200 0)) (fun i _ => 3 - (intOf i).toNat)
  case atStart => exact ⟨0, Nat.zero_le _, rfl, _, .inl ⟨rfl, HT.out⟩⟩
  case round =>
    obtain ⟨j, hj, rfl, Y, hT⟩ := hrel
    by_cases hlt : j < 3
    · have hlt' : (j : Int) < 3 := by omega
      rcases hT with ⟨rfl, ht⟩ | ⟨hj1, ht⟩
      · have C := wait_any ht c9 100 1000 3 (ends_ok1 _ _ _ hsl) (by decide) (by decide)
        rw [ends_first EO.out hsl] at C
        have C := Lib.hid C
        go_wp2_with fail
        refine C.out.mono ?_
        rintro e w4 h4
        obtain ⟨Y4, D4, m4, d4, rfl, -, -, t4, -, -⟩ := h4.open_
        have ba4 := (Below.refl w4.heap.size w4).alloc (Nat.le_refl _) (.cells #[.int .i64 4, .int .i64 (1), .slice D4 m4 d4, .int .i64 0] 105)
        have T4 := Lib.hid (t4.below ba4)
        have N4 := Lib.hid (show Calls _ _ _ _ (fun e w' => e = .returned (.int .i64 3) ∧ w' = _) from T4.out.line.now_)
        have CB := Lib.hid T4.out.buf.bytes
        clear h4 t4 ba4 C ht
        go_wp2_with fail
        refine N4.out.mono ?_
        rintro e w4' ⟨rfl, rfl⟩
        go_wp2_with fail
        refine CB.out.mono ?_
        rintro e w6 ⟨A6, c6, rfl, r6, -, b6⟩
        have hst6 : (convert 52 9 (.slice A6 s.size c6)).run Try.prog w6 = .ok (.string s) w6 := by
          have := conv_str r6.bytes c6
          rwa [show (⟨s.data.toList.toArray⟩ : ByteArray) = s by cases s; simp] at this
        have T6 := Lib.hid (T4.out.below b6)
        clear r6 b6 CB N4
        go_wp2
        go_roundw
        case rel => exact ⟨0 + 1, by omega, by go_num, Y4, .inr ⟨by omega, by simpa using T6.out⟩⟩
        case measure => simp [intOf] <;> omega
      · have C := wait_any ht c9 100 1000 3 (ends_ok2 _ _ _ hsl) (by decide) (by decide)
        rw [ends_tail EO.out 2 false 3 (by decide) _ rfl] at C
        have C := Lib.hid C
        go_wp2_with fail
        refine C.out.mono ?_
        rintro e w4 h4
        obtain ⟨Y4, D4, m4, d4, rfl, -, -, t4, -, -⟩ := h4.open_
        have ba4 := (Below.refl w4.heap.size w4).alloc (Nat.le_refl _) (.cells #[.int .i64 4, .int .i64 (1), .slice D4 m4 d4, .int .i64 0] 105)
        have T4 := Lib.hid (t4.below ba4)
        have N4 := Lib.hid (show Calls _ _ _ _ (fun e w' => e = .returned (.int .i64 3) ∧ w' = _) from T4.out.line.now_)
        have CB := Lib.hid T4.out.buf.bytes
        clear h4 t4 ba4 C ht
        go_wp2_with fail
        refine N4.out.mono ?_
        rintro e w4' ⟨rfl, rfl⟩
        go_wp2_with fail
        refine CB.out.mono ?_
        rintro e w6 ⟨A6, c6, rfl, r6, -, b6⟩
        have hst6 : (convert 52 9 (.slice A6 s.size c6)).run Try.prog w6 = .ok (.string s) w6 := by
          have := conv_str r6.bytes c6
          rwa [show (⟨s.data.toList.toArray⟩ : ByteArray) = s by cases s; simp] at this
        have T6 := Lib.hid (T4.out.below b6)
        clear r6 b6 CB N4
        go_wp2
        go_roundw
        case rel => exact ⟨j + 1, by omega, by go_num, Y4, .inr ⟨by omega, by simpa using T6.out⟩⟩
        case measure => simp [intOf] <;> omega
    · have hlt' : ¬ (j : Int) < 3 := by omega
      have FIN := Lib.hid (show Below w.heap.size w wr from by
        rcases hT with ⟨_, ht⟩ | ⟨_, ht⟩
        · exact BA.out.trans (ht.line.old.mono HW.out)
        · exact BA.out.trans (ht.line.old.mono HW.out))
      clear hT
      go_wp2
      go_ret
      exact ⟨rfl, FIN.out⟩
set_option maxHeartbeats 8000000 in
set_option maxRecDepth 100000 in
theorem ends_nt0 {w : World} (en : Int) (s : ByteArray) (hs : s.size ≤ 100) (hev : bits BinOp.and IntKind.i64 en 1 = 0) : Calls Try.prog 13 #[.int .i64 en, .bool false, .bool true, .string s] w (EndP w) := by
  have hov : ¬ 9223372036854775807 < s.size + 1 := by omega
  have h100 : decide ((100 : Int) < (s.size : Int)) = false := by rw [decide_eq_false_iff_not]; omega
  have h100b : ¬ (100 : Int) < (s.size : Int) := by omega
  have hwr : IntKind.i64.wrap 1 = 1 := by decide
  obtain ⟨t, ht⟩ : ∃ t, t = s ++ ⟨#[33]⟩ := ⟨_, rfl⟩
  have htl : t.data.toList = s.data.toList ++ [33] := by rw [ht]; simp
  have hts : t.size ≤ 256 := by have : t.size = t.data.toList.length := rfl; rw [this, htl, List.length_append]; show s.size + 1 ≤ 256; omega
  have HTL := Lib.hid htl
  have HTS := Lib.hid hts
  have HT := Lib.hid ht
  clear ht htl hts
  go_enter Try.func13, Try.ntmps13
  go_wp2_with fail
  refine (talive_any _).mono ?_
  rintro e w0 ⟨rfl, ba⟩
  have BA := Lib.hid ba
  clear ba
  have b0 := (Below.refl w0.heap.size w0).alloc (Nat.le_refl _) (.cells #[.int .i64 1, .string t, .bool false, .slice none 0 0] 80)
  have o0 : (w0.alloc (.cells #[.int .i64 1, .string t, .bool false, .slice none 0 0] 80)).ownsRow w0.heap.size 80 4 (.slice (some ⟨w0.heap.size, 0, none⟩) 1 1) 1 (flatA [⟨1, t⟩]) := World.ownsRow_lit w0 #[.int .i64 1, .string t, .bool false, .slice none 0 0] 1 (Nat.le_refl _) (by decide) rfl
  have O := Lib.hid o0
  have B := Lib.hid b0
  have hsz : w0.heap.size ≤ (w0.alloc (.cells #[.int .i64 1, .string t, .bool false, .slice none 0 0] 80)).heap.size := by simp
  clear b0 o0
  have hte : s ++ ⟨#[33]⟩ = t := HT.out.symm
  obtain ⟨A1, c1, W1, run1, o1, bb1, hs1⟩ := acl_app O.out hsz B.out (by decide) 5 6
  have RUN1 := Lib.hid run1
  have O := Lib.hid o1
  have B := Lib.hid bb1
  clear run1 o1 bb1 hsz
  have hsz := hs1
  rw [show (w0.alloc (.cells #[.int .i64 1, .string t, .bool false, .slice none 0 0] 80)).heap.size = w0.heap.size + 1 by simp] at RUN1
  have hA : AClsAt W1 A1 3 (endsOf t false true) := acl_of O.out rfl (by decide)
  have C := Lib.hid (compile_any hA (ends_spok t HTS.out false true) c1)
  clear hA
  go_wp2_with (first | (at_builtin; refine wpList_append_run rfl (.tmp 34) (.tmp 37) 76 rfl _ _ _ rfl rfl RUN1.out ?_))
  refine C.out.mono ?_
  rintro e w1 ⟨A9, c9, Z, rfl, hcl, hz, b1⟩
  have HCL := Lib.hid hcl
  have HZ := Lib.hid hz
  have HB1 := Lib.hid b1
  obtain ⟨cb, W5, hcv, hby, b5, hs5⟩ := bytes_of9 w1 s
  have b6 := (Below.refl W5.heap.size W5).alloc (Nat.le_refl _) (.cells #[.int .i64 1, .slice (some ⟨w1.heap.size, 0, none⟩) s.size cb] 103)
  have hch : ArgCh (W5.alloc (.cells #[.int .i64 1, .slice (some ⟨w1.heap.size, 0, none⟩) s.size cb] 103)) (some ⟨w1.heap.size + 1, 0, none⟩) 1 [⟨1, some ⟨w1.heap.size, 0, none⟩, s.size, cb, s.data.toList⟩] := by
    have hb := Blk.new W5 103 #[.int .i64 1, .slice (some ⟨w1.heap.size, 0, none⟩) s.size cb]
    rw [hs5] at hb
    refine ⟨rfl, by decide, fun k hk => ?_, fun _ => ⟨w1.heap.size + 1, 0, rfl, hb.lt, fun i k hi => ?_⟩⟩
    · rcases List.mem_cons.1 hk with rfl | hk
      · exact ⟨hby.below b6, by show s.size ≤ _; omega⟩
      · cases hk
    · match i, hi with
      | 0, hi => simp at hi; subst hi; exact ⟨hb.cell 0, hb.cell 1⟩
      | i + 1, hi => simp at hi
  have C2 := Lib.hid (show Calls _ _ _ _ (OpenP _ ⟨[(1, s.data.toList)], 1, 2, 0, 0, []⟩) from open_any (c := 1) (1) 2 hch)
  have B2 := Lib.hid (b5.trans (b6.mono (by omega)))
  clear hcl hz b1 hch C hby b5 b6
  go_wp2_with fail
  refine C2.out.mono ?_
  rintro e w2 ⟨lp, X, R, rfl, hl⟩
  have HL := Lib.hid hl
  have B02 := Lib.hid (((B.out.trans (HB1.out.mono hsz)).trans (B2.out.mono (Nat.le_trans hsz HB1.out.size))).trans (hl.old.mono (by have := HB1.out.size; have := B2.out.size; omega)))
  have C3 := Lib.hid (bs_new (w0 := w0) 200 w2 B02.out)
  clear hl C2
  go_wp2_with fail
  refine C3.out.mono ?_
  rintro e w3 ⟨rfl, hb, b3, -⟩
  have HT := Lib.hid (ts_make (gone := 0) (most := 200) B.out HCL.out HZ.out B2.out HL.out HB1.out hb b3)
  have HW := Lib.hid BA.out.size
  have EO := Lib.hid (ends_okOf s t HTL.out false true 1 (by decide))
  have hsl : s.data.toList.length ≤ 100 := hs
  clear hb b3 C3 hcv
  go_wp2_with fail
  go_loopw [16] (fun i wr => ∃ j : Nat, j ≤ 3 ∧ i = .int .i64 (j : Nat) ∧ ∃ Y, (j = 0 ∧ TS w0 wr lp w2.heap.size X R Y A9 3 ((endsOf t false true).map clOf) Z ⟨[(1, s.data.toList)], 1, 2, 0, 0, []⟩ [] 200 0) ∨ (1 ≤ j ∧ TS w0 wr lp w2.heap.size X R Y A9 3 ((endsOf t false true).map clOf) Z ⟨[], 1, 2, 1, 3, []⟩ s.data.toList 200 0)) (fun i _ => 3 - (intOf i).toNat)
  case atStart => exact ⟨0, Nat.zero_le _, rfl, _, .inl ⟨rfl, HT.out⟩⟩
  case round =>
    obtain ⟨j, hj, rfl, Y, hT⟩ := hrel
    by_cases hlt : j < 3
    · have hlt' : (j : Int) < 3 := by omega
      rcases hT with ⟨rfl, ht⟩ | ⟨hj1, ht⟩
      · have C := wait_any ht c9 100 1000 3 (ends_ok1 _ _ _ hsl) (by decide) (by decide)
        rw [ends_first EO.out hsl] at C
        have C := Lib.hid C
        go_wp2_with fail
        refine C.out.mono ?_
        rintro e w4 h4
        obtain ⟨Y4, D4, m4, d4, rfl, -, -, t4, -, -⟩ := h4.open_
        have ba4 := (Below.refl w4.heap.size w4).alloc (Nat.le_refl _) (.cells #[.int .i64 3, .int .i64 (1), .slice D4 m4 d4, .int .i64 0] 105)
        have T4 := Lib.hid (t4.below ba4)
        have N4 := Lib.hid (show Calls _ _ _ _ (fun e w' => e = .returned (.int .i64 3) ∧ w' = _) from T4.out.line.now_)
        have CB := Lib.hid T4.out.buf.bytes
        clear h4 t4 ba4 C ht
        go_wp2_with fail
        refine N4.out.mono ?_
        rintro e w4' ⟨rfl, rfl⟩
        go_wp2_with fail
        refine CB.out.mono ?_
        rintro e w6 ⟨A6, c6, rfl, r6, -, b6⟩
        have hst6 : (convert 52 9 (.slice A6 s.size c6)).run Try.prog w6 = .ok (.string s) w6 := by
          have := conv_str r6.bytes c6
          rwa [show (⟨s.data.toList.toArray⟩ : ByteArray) = s by cases s; simp] at this
        have T6 := Lib.hid (T4.out.below b6)
        clear r6 b6 CB N4
        go_wp2
        go_roundw
        case rel => exact ⟨0 + 1, by omega, by go_num, Y4, .inr ⟨by omega, by simpa using T6.out⟩⟩
        case measure => simp [intOf] <;> omega
      · have C := wait_any ht c9 100 1000 3 (ends_ok2 _ _ _ hsl) (by decide) (by decide)
        rw [ends_tail EO.out 2 false 3 (by decide) _ rfl] at C
        have C := Lib.hid C
        go_wp2_with fail
        refine C.out.mono ?_
        rintro e w4 h4
        obtain ⟨Y4, D4, m4, d4, rfl, -, -, t4, -, -⟩ := h4.open_
        have ba4 := (Below.refl w4.heap.size w4).alloc (Nat.le_refl _) (.cells #[.int .i64 3, .int .i64 (1), .slice D4 m4 d4, .int .i64 0] 105)
        have T4 := Lib.hid (t4.below ba4)
        have N4 := Lib.hid (show Calls _ _ _ _ (fun e w' => e = .returned (.int .i64 3) ∧ w' = _) from T4.out.line.now_)
        have CB := Lib.hid T4.out.buf.bytes
        clear h4 t4 ba4 C ht
        go_wp2_with fail
        refine N4.out.mono ?_
        rintro e w4' ⟨rfl, rfl⟩
        go_wp2_with fail
        refine CB.out.mono ?_
        rintro e w6 ⟨A6, c6, rfl, r6, -, b6⟩
        have hst6 : (convert 52 9 (.slice A6 s.size c6)).run Try.prog w6 = .ok (.string s) w6 := by
          have := conv_str r6.bytes c6
          rwa [show (⟨s.data.toList.toArray⟩ : ByteArray) = s by cases s; simp] at this
        have T6 := Lib.hid (T4.out.below b6)
        clear r6 b6 CB N4
        go_wp2
        go_roundw
        case rel => exact ⟨j + 1, by omega, by go_num, Y4, .inr ⟨by omega, by simpa using T6.out⟩⟩
        case measure => simp [intOf] <;> omega
    · have hlt' : ¬ (j : Int) < 3 := by omega
      have FIN := Lib.hid (show Below w.heap.size w wr from by
        rcases hT with ⟨_, ht⟩ | ⟨_, ht⟩
        · exact BA.out.trans (ht.line.old.mono HW.out)
        · exact BA.out.trans (ht.line.old.mono HW.out))
      clear hT
      go_wp2
      go_ret
      exact ⟨rfl, FIN.out⟩
set_option maxHeartbeats 8000000 in
set_option maxRecDepth 100000 in
theorem ends_nt1 {w : World} (en : Int) (s : ByteArray) (hs : s.size ≤ 100) (hev : bits BinOp.and IntKind.i64 en 1 = 1) : Calls Try.prog 13 #[.int .i64 en, .bool false, .bool true, .string s] w (EndP w) := by
  have hov : ¬ 9223372036854775807 < s.size + 1 := by omega
  have h100 : decide ((100 : Int) < (s.size : Int)) = false := by rw [decide_eq_false_iff_not]; omega
  have h100b : ¬ (100 : Int) < (s.size : Int) := by omega
  have hwr : IntKind.i64.wrap 2 = 2 := by decide
  obtain ⟨t, ht⟩ : ∃ t, t = s ++ ⟨#[33]⟩ := ⟨_, rfl⟩
  have htl : t.data.toList = s.data.toList ++ [33] := by rw [ht]; simp
  have hts : t.size ≤ 256 := by have : t.size = t.data.toList.length := rfl; rw [this, htl, List.length_append]; show s.size + 1 ≤ 256; omega
  have HTL := Lib.hid htl
  have HTS := Lib.hid hts
  have HT := Lib.hid ht
  clear ht htl hts
  go_enter Try.func13, Try.ntmps13
  go_wp2_with fail
  refine (talive_any _).mono ?_
  rintro e w0 ⟨rfl, ba⟩
  have BA := Lib.hid ba
  clear ba
  have b0 := (Below.refl w0.heap.size w0).alloc (Nat.le_refl _) (.cells #[.int .i64 1, .string t, .bool false, .slice none 0 0] 80)
  have o0 : (w0.alloc (.cells #[.int .i64 1, .string t, .bool false, .slice none 0 0] 80)).ownsRow w0.heap.size 80 4 (.slice (some ⟨w0.heap.size, 0, none⟩) 1 1) 1 (flatA [⟨1, t⟩]) := World.ownsRow_lit w0 #[.int .i64 1, .string t, .bool false, .slice none 0 0] 1 (Nat.le_refl _) (by decide) rfl
  have O := Lib.hid o0
  have B := Lib.hid b0
  have hsz : w0.heap.size ≤ (w0.alloc (.cells #[.int .i64 1, .string t, .bool false, .slice none 0 0] 80)).heap.size := by simp
  clear b0 o0
  have hte : s ++ ⟨#[33]⟩ = t := HT.out.symm
  obtain ⟨A1, c1, W1, run1, o1, bb1, hs1⟩ := acl_app O.out hsz B.out (by decide) 5 6
  have RUN1 := Lib.hid run1
  have O := Lib.hid o1
  have B := Lib.hid bb1
  clear run1 o1 bb1 hsz
  have hsz := hs1
  rw [show (w0.alloc (.cells #[.int .i64 1, .string t, .bool false, .slice none 0 0] 80)).heap.size = w0.heap.size + 1 by simp] at RUN1
  have hA : AClsAt W1 A1 3 (endsOf t false true) := acl_of O.out rfl (by decide)
  have C := Lib.hid (compile_any hA (ends_spok t HTS.out false true) c1)
  clear hA
  go_wp2_with (first | (at_builtin; refine wpList_append_run rfl (.tmp 34) (.tmp 37) 76 rfl _ _ _ rfl rfl RUN1.out ?_))
  refine C.out.mono ?_
  rintro e w1 ⟨A9, c9, Z, rfl, hcl, hz, b1⟩
  have HCL := Lib.hid hcl
  have HZ := Lib.hid hz
  have HB1 := Lib.hid b1
  obtain ⟨cb, W5, hcv, hby, b5, hs5⟩ := bytes_of9 w1 s
  have b6 := (Below.refl W5.heap.size W5).alloc (Nat.le_refl _) (.cells #[.int .i64 1, .slice (some ⟨w1.heap.size, 0, none⟩) s.size cb] 103)
  have hch : ArgCh (W5.alloc (.cells #[.int .i64 1, .slice (some ⟨w1.heap.size, 0, none⟩) s.size cb] 103)) (some ⟨w1.heap.size + 1, 0, none⟩) 1 [⟨1, some ⟨w1.heap.size, 0, none⟩, s.size, cb, s.data.toList⟩] := by
    have hb := Blk.new W5 103 #[.int .i64 1, .slice (some ⟨w1.heap.size, 0, none⟩) s.size cb]
    rw [hs5] at hb
    refine ⟨rfl, by decide, fun k hk => ?_, fun _ => ⟨w1.heap.size + 1, 0, rfl, hb.lt, fun i k hi => ?_⟩⟩
    · rcases List.mem_cons.1 hk with rfl | hk
      · exact ⟨hby.below b6, by show s.size ≤ _; omega⟩
      · cases hk
    · match i, hi with
      | 0, hi => simp at hi; subst hi; exact ⟨hb.cell 0, hb.cell 1⟩
      | i + 1, hi => simp at hi
  have C2 := Lib.hid (show Calls _ _ _ _ (OpenP _ ⟨[(1, s.data.toList)], 2, 2, 0, 0, []⟩) from open_any (c := 1) (2) 2 hch)
  have B2 := Lib.hid (b5.trans (b6.mono (by omega)))
  clear hcl hz b1 hch C hby b5 b6
  go_wp2_with fail
  refine C2.out.mono ?_
  rintro e w2 ⟨lp, X, R, rfl, hl⟩
  have HL := Lib.hid hl
  have B02 := Lib.hid (((B.out.trans (HB1.out.mono hsz)).trans (B2.out.mono (Nat.le_trans hsz HB1.out.size))).trans (hl.old.mono (by have := HB1.out.size; have := B2.out.size; omega)))
  have C3 := Lib.hid (bs_new (w0 := w0) 200 w2 B02.out)
  clear hl C2
  go_wp2_with fail
  refine C3.out.mono ?_
  rintro e w3 ⟨rfl, hb, b3, -⟩
  have HT := Lib.hid (ts_make (gone := 0) (most := 200) B.out HCL.out HZ.out B2.out HL.out HB1.out hb b3)
  have HW := Lib.hid BA.out.size
  have EO := Lib.hid (ends_okOf s t HTL.out false true 2 (by decide))
  have hsl : s.data.toList.length ≤ 100 := hs
  clear hb b3 C3 hcv
  go_wp2_with fail
  go_loopw [16] (fun i wr => ∃ j : Nat, j ≤ 3 ∧ i = .int .i64 (j : Nat) ∧ ∃ Y, (j = 0 ∧ TS w0 wr lp w2.heap.size X R Y A9 3 ((endsOf t false true).map clOf) Z ⟨[(1, s.data.toList)], 2, 2, 0, 0, []⟩ [] 200 0) ∨ (1 ≤ j ∧ TS w0 wr lp w2.heap.size X R Y A9 3 ((endsOf t false true).map clOf) Z ⟨[], 2, 2, 1, 3, []⟩ s.data.toList 200 0)) (fun i _ => 3 - (intOf i).toNat)
  case atStart => exact ⟨0, Nat.zero_le _, rfl, _, .inl ⟨rfl, HT.out⟩⟩
  case round =>
    obtain ⟨j, hj, rfl, Y, hT⟩ := hrel
    by_cases hlt : j < 3
    · have hlt' : (j : Int) < 3 := by omega
      rcases hT with ⟨rfl, ht⟩ | ⟨hj1, ht⟩
      · have C := wait_any ht c9 100 1000 3 (ends_ok1 _ _ _ hsl) (by decide) (by decide)
        rw [ends_first EO.out hsl] at C
        have C := Lib.hid C
        go_wp2_with fail
        refine C.out.mono ?_
        rintro e w4 h4
        obtain ⟨Y4, D4, m4, d4, rfl, -, -, t4, -, -⟩ := h4.open_
        have ba4 := (Below.refl w4.heap.size w4).alloc (Nat.le_refl _) (.cells #[.int .i64 4, .int .i64 (2), .slice D4 m4 d4, .int .i64 0] 105)
        have T4 := Lib.hid (t4.below ba4)
        have N4 := Lib.hid (show Calls _ _ _ _ (fun e w' => e = .returned (.int .i64 3) ∧ w' = _) from T4.out.line.now_)
        have CB := Lib.hid T4.out.buf.bytes
        clear h4 t4 ba4 C ht
        go_wp2_with fail
        refine N4.out.mono ?_
        rintro e w4' ⟨rfl, rfl⟩
        go_wp2_with fail
        refine CB.out.mono ?_
        rintro e w6 ⟨A6, c6, rfl, r6, -, b6⟩
        have hst6 : (convert 52 9 (.slice A6 s.size c6)).run Try.prog w6 = .ok (.string s) w6 := by
          have := conv_str r6.bytes c6
          rwa [show (⟨s.data.toList.toArray⟩ : ByteArray) = s by cases s; simp] at this
        have T6 := Lib.hid (T4.out.below b6)
        clear r6 b6 CB N4
        go_wp2
        go_roundw
        case rel => exact ⟨0 + 1, by omega, by go_num, Y4, .inr ⟨by omega, by simpa using T6.out⟩⟩
        case measure => simp [intOf] <;> omega
      · have C := wait_any ht c9 100 1000 3 (ends_ok2 _ _ _ hsl) (by decide) (by decide)
        rw [ends_tail EO.out 2 false 3 (by decide) _ rfl] at C
        have C := Lib.hid C
        go_wp2_with fail
        refine C.out.mono ?_
        rintro e w4 h4
        obtain ⟨Y4, D4, m4, d4, rfl, -, -, t4, -, -⟩ := h4.open_
        have ba4 := (Below.refl w4.heap.size w4).alloc (Nat.le_refl _) (.cells #[.int .i64 4, .int .i64 (2), .slice D4 m4 d4, .int .i64 0] 105)
        have T4 := Lib.hid (t4.below ba4)
        have N4 := Lib.hid (show Calls _ _ _ _ (fun e w' => e = .returned (.int .i64 3) ∧ w' = _) from T4.out.line.now_)
        have CB := Lib.hid T4.out.buf.bytes
        clear h4 t4 ba4 C ht
        go_wp2_with fail
        refine N4.out.mono ?_
        rintro e w4' ⟨rfl, rfl⟩
        go_wp2_with fail
        refine CB.out.mono ?_
        rintro e w6 ⟨A6, c6, rfl, r6, -, b6⟩
        have hst6 : (convert 52 9 (.slice A6 s.size c6)).run Try.prog w6 = .ok (.string s) w6 := by
          have := conv_str r6.bytes c6
          rwa [show (⟨s.data.toList.toArray⟩ : ByteArray) = s by cases s; simp] at this
        have T6 := Lib.hid (T4.out.below b6)
        clear r6 b6 CB N4
        go_wp2
        go_roundw
        case rel => exact ⟨j + 1, by omega, by go_num, Y4, .inr ⟨by omega, by simpa using T6.out⟩⟩
        case measure => simp [intOf] <;> omega
    · have hlt' : ¬ (j : Int) < 3 := by omega
      have FIN := Lib.hid (show Below w.heap.size w wr from by
        rcases hT with ⟨_, ht⟩ | ⟨_, ht⟩
        · exact BA.out.trans (ht.line.old.mono HW.out)
        · exact BA.out.trans (ht.line.old.mono HW.out))
      clear hT
      go_wp2
      go_ret
      exact ⟨rfl, FIN.out⟩
set_option maxHeartbeats 1000000 in
set_option maxRecDepth 100000 in
theorem talkEnds_walk {w : World} (en : Int) (has twice : Bool) (s : ByteArray) (hs0 : s.size ≤ maxLen) : Calls Try.prog 13 #[.int .i64 en, .bool has, .bool twice, .string s] w (EndP w) := by
  unfold maxLen at hs0
  rcases Nat.lt_or_ge 100 s.size with h100 | h100
  · have h100' : (100 : Int) < (s.size : Int) := by omega
    go_enter Try.func13, Try.ntmps13
    go_wp2_with fail
    refine (talive_any _).mono ?_
    rintro e w0 ⟨rfl, ba⟩
    go_wp2
    go_ret
    exact ⟨rfl, ba⟩
  have hbd := and_lo9 en 1 1 rfl (by decide)
  rcases (by omega : bits BinOp.and IntKind.i64 en 1 = 0 ∨ bits BinOp.and IntKind.i64 en 1 = 1) with h | h
  · cases has <;> cases twice
    · exact ends_nn0 en s h100 h
    · exact ends_nt0 en s h100 h
    · exact ends_hn0 en s h100 h
    · exact ends_ht0 en s h100 h
  · cases has <;> cases twice
    · exact ends_nn1 en s h100 h
    · exact ends_nt1 en s h100 h
    · exact ends_hn1 en s h100 h
    · exact ends_ht1 en s h100 h
end Go.Proofs.Ytgcbcdbfeaepkaa
