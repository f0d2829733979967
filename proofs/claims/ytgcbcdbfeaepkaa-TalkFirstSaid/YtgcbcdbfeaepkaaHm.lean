/- TalkFirst's walk. -/
import Derived.Test.YtgcbcdbfeaepkaaHl
namespace Go.Proofs.Ytgcbcdbfeaepkaa
open Go.RowKit Go.Maps

def FirP (w : World) (e : Ending) (w' : World) : Prop := e = .returned (.bool true) ∧ Below w.heap.size w w'
theorem str_of (s : ByteArray) : (⟨s.data.toList.toArray⟩ : ByteArray) = s := by cases s; simp
set_option maxHeartbeats 8000000 in
set_option maxRecDepth 100000 in
theorem talkFirst_walk {w : World} (one two : ByteArray) {A : Option Addr} {n c : Nat} {cks : List Ck} (fin wt : Int) (h1 : one.size ≤ maxLen) (h2 : two.size ≤ maxLen) (hA : ArgCh w A n cks) :
    Calls Try.prog 11 #[.string one, .string two, .agg #[.slice A n c, .int .i64 fin, .int .i64 wt]] w (FirP w) := by
  unfold maxLen at h1 h2
  have HA := Lib.hid hA
  have hnl := hA.2.1
  have hckl := hA.1
  clear hA
  obtain ⟨wb, hwb⟩ : ∃ wb, wb = w.alloc (.cells #[.slice A n c, .int .i64 fin, .int .i64 wt] 93) := ⟨_, rfl⟩
  have bb : Below w.heap.size w wb := hwb ▸ (Below.refl _ w).alloc (Nat.le_refl _) _
  have tb : Blk wb w.heap.size 93 #[.slice A n c, .int .i64 fin, .int .i64 wt] := hwb ▸ Blk.new w _ _
  have HWB := Lib.hid hwb
  have BB := Lib.hid bb
  have TB := Lib.hid tb
  have AL := Lib.hid (talive_any wb)
  rw [hwb] at AL
  clear hwb bb tb
  rcases Nat.lt_or_ge 30 n with hx | hx
  · have hx' : (30 : Int) < (n : Int) := by omega
    go_enter Try.func11, Try.ntmps11
    go_wp2_with fail
    refine AL.out.mono ?_
    rintro e w0 ⟨rfl, ba⟩
    rw [← HWB.out] at ba
    have FIN := Lib.hid (BB.out.trans (ba.mono BB.out.size))
    obtain ⟨c0, c1, c2, -⟩ := blk3 (TB.out.below ba TB.out.lt)
    clear ba
    go_wp2
    go_ret
    exact ⟨rfl, FIN.out⟩
  have d0 : decide ((30 : Int) < (n : Int)) = false := by rw [decide_eq_false_iff_not]; omega
  have e0 : decide (30 < n) = false := by rw [decide_eq_false_iff_not]; omega
  have f0 : ¬ (30 : Int) < (n : Int) := by omega
  rcases Nat.lt_or_ge 100 one.size with hx | hx
  · have hx' : (100 : Int) < (one.size : Int) := by omega
    go_enter Try.func11, Try.ntmps11
    go_wp2_with fail
    refine AL.out.mono ?_
    rintro e w0 ⟨rfl, ba⟩
    rw [← HWB.out] at ba
    have FIN := Lib.hid (BB.out.trans (ba.mono BB.out.size))
    obtain ⟨c0, c1, c2, -⟩ := blk3 (TB.out.below ba TB.out.lt)
    clear ba
    go_wp2
    go_ret
    exact ⟨rfl, FIN.out⟩
  have d1 : decide ((100 : Int) < (one.size : Int)) = false := by rw [decide_eq_false_iff_not]; omega
  have e1 : decide (100 < one.size) = false := by rw [decide_eq_false_iff_not]; omega
  have f1 : ¬ (100 : Int) < (one.size : Int) := by omega
  rcases Nat.lt_or_ge 100 two.size with hx | hx
  · have hx' : (100 : Int) < (two.size : Int) := by omega
    go_enter Try.func11, Try.ntmps11
    go_wp2_with fail
    refine AL.out.mono ?_
    rintro e w0 ⟨rfl, ba⟩
    rw [← HWB.out] at ba
    have FIN := Lib.hid (BB.out.trans (ba.mono BB.out.size))
    obtain ⟨c0, c1, c2, -⟩ := blk3 (TB.out.below ba TB.out.lt)
    clear ba
    go_wp2
    go_ret
    exact ⟨rfl, FIN.out⟩
  have d2 : decide ((100 : Int) < (two.size : Int)) = false := by rw [decide_eq_false_iff_not]; omega
  have e2 : decide (100 < two.size) = false := by rw [decide_eq_false_iff_not]; omega
  have f2 : ¬ (100 : Int) < (two.size : Int) := by omega
  have hn30 : n ≤ 30 := by omega
  have ho100 : one.size ≤ 100 := by omega
  have ht100 : two.size ≤ 100 := by omega
  clear hx
  go_enter Try.func11, Try.ntmps11
  go_wp2_with fail
  refine AL.out.mono ?_
  rintro e w0 ⟨rfl, ba⟩
  rw [← HWB.out] at ba
  have BA := Lib.hid (BB.out.trans (ba.mono BB.out.size))
  have TB0 := Lib.hid (TB.out.below ba TB.out.lt)
  have A0 := Lib.hid ((HA.out.below BB.out).below ba)
  obtain ⟨c0, c1, c2, -⟩ := blk3 TB0.out
  have hlt0 : w.heap.size < w0.heap.size := TB0.out.lt
  clear ba AL TB BB HWB
  obtain ⟨wc, hwc⟩ : ∃ wc, wc = w0.alloc (.cells #[.int .i64 1, .string one, .bool false, .slice none 0 0, .int .i64 1, .string two, .bool false, .slice none 0 0] 80) := ⟨_, rfl⟩
  have b0 : Below w0.heap.size w0 wc := hwc ▸ (Below.refl _ w0).alloc (Nat.le_refl _) _
  have hAc : AClsAt wc (some ⟨w0.heap.size, 0, none⟩) 2 [⟨1, one⟩, ⟨1, two⟩] := by
    have hb := Blk.new w0 80 #[.int .i64 1, .string one, .bool false, .slice none 0 0, .int .i64 1, .string two, .bool false, .slice none 0 0]
    rw [← hwc] at hb
    refine ⟨rfl, by decide, fun _ => ⟨w0.heap.size, 0, rfl, hb.lt, fun i p hi => ?_⟩⟩
    match i, hi with
    | 0, hi => simp at hi; subst hi; exact ⟨hb.cell 0, hb.cell 1, ⟨_, hb.cell 2⟩, _, _, _, hb.cell 3⟩
    | 1, hi => simp at hi; subst hi; exact ⟨hb.cell 4, hb.cell 5, ⟨_, hb.cell 6⟩, _, _, _, hb.cell 7⟩
    | i + 2, hi => simp at hi
  have C := Lib.hid (compile_any hAc (fun p hp => by
    rcases List.mem_cons.1 hp with rfl | hp
    · exact .inl ⟨rfl, show one.size ≤ 256 by omega⟩
    · rcases List.mem_cons.1 hp with rfl | hp
      · exact .inl ⟨rfl, show two.size ≤ 256 by omega⟩
      · cases hp) 2)
  have B0 := Lib.hid b0
  rw [hwc] at C
  have HWC := Lib.hid hwc
  clear b0 hAc hwc
  go_wp2_with fail
  refine C.out.mono ?_
  rintro e w1 ⟨A1, c1', Z, rfl, hcl, hz, b1⟩
  rw [← HWC.out] at hz b1
  have HCL := Lib.hid hcl
  have HZ := Lib.hid hz
  have HB1 := Lib.hid b1
  have B01 := Lib.hid (B0.out.trans (b1.mono B0.out.size))
  have C2 := Lib.hid (show Calls _ _ _ _ (OpenP _ ⟨plainD cks, fin, wt, 0, 0, []⟩) from open_any (c := c) fin wt (A0.out.below B01.out))
  obtain ⟨x0, x1, x2, -⟩ := blk3 (TB0.out.below B01.out hlt0)
  clear hcl hz b1 C
  go_wp2_with fail
  refine C2.out.mono ?_
  rintro e w2 ⟨lp, X, R, rfl, hl⟩
  have HL := Lib.hid hl
  have B02 := Lib.hid (B01.out.trans (hl.old.mono (by have := B01.out.size; omega)))
  have C3 := Lib.hid (bs_new (w0 := w0) 2000 w2 B02.out)
  clear hl C2
  go_wp2_with fail
  refine C3.out.mono ?_
  rintro e w3 ⟨rfl, hb, b3, -⟩
  have HT := Lib.hid (ts_make (gone := 0) (most := 2000) B0.out HCL.out HZ.out (Below.refl _ _) HL.out HB1.out hb b3)
  have hB3 := HT.out.line.old
  obtain ⟨y0, y1, y2, -⟩ := blk3 (TB0.out.below hB3 hlt0)
  have A3 := Lib.hid (A0.out.below hB3)
  have HW := Lib.hid BA.out.size
  have hdl : (plainD cks).length = n := by unfold plainD; rw [List.length_map]; exact hckl
  have hlt3 : w.heap.size < w3.heap.size := Nat.lt_of_lt_of_le hlt0 hB3.size
  obtain ⟨ds, hds⟩ : ∃ ds, ds = plainD cks := ⟨_, rfl⟩
  have HDS := Lib.hid hds
  rw [← hds] at HT hdl
  clear hb b3 C3 hB3 hds
  go_wp2_with fail
  go_loopw [11, 12, 13, 14] (fun va vw vt i wr => ∃ (j : Nat) (aj : ByteArray) (z : Int), j ≤ n ∧ i = .int .i64 (j : Nat) ∧ va = .string aj ∧ vw = .int .i64 (-1) ∧ vt = .int .i64 z ∧ stopF one.data.toList two.data.toList ds [] = stopF one.data.toList two.data.toList (ds.drop j) aj.data.toList ∧ (okF one.data.toList two.data.toList (ds.drop j) aj.data.toList → okF one.data.toList two.data.toList ds []) ∧ aj.size ≤ 140737488360000 ∧ wr = w3) (fun _ _ _ i _ => n - (intOf i).toNat)
  case atStart => exact ⟨0, ⟨#[]⟩, 0, Nat.zero_le _, rfl, rfl, rfl, rfl, rfl, fun h => h, Nat.zero_le _, rfl⟩
  case round =>
    obtain ⟨j, aj, z, hj, rfl, rfl, rfl, rfl, hst, hok, hsz, rfl⟩ := hrel
    have HST := Lib.hid hst
    have HOK := Lib.hid hok
    clear hst hok
    have hj' : (j : Int) ≤ (n : Int) := by omega
    have hj0 : (0 : Int) ≤ (j : Int) := by omega
    by_cases h2000 : 2000 < aj.size
    · have h2000' : (2000 : Int) < (aj.size : Int) := by omega
      have FIN := Lib.hid (BA.out.trans (HT.out.line.old.mono HW.out))
      go_wp2
      go_ret
      exact ⟨rfl, FIN.out⟩
    have h2000' : ¬ (2000 : Int) < (aj.size : Int) := by omega
    have HX1 := Lib.hid (fun W => has_any aj one (by omega) (by omega) W)
    have HX2 := Lib.hid (fun W => has_any aj two (by omega) (by omega) W)
    have hal : aj.data.toList.length ≤ 2000 := by show aj.size ≤ 2000; omega
    have HAL := Lib.hid hal
    obtain ⟨p, hp⟩ : ∃ p, p = (exF one.data.toList aj.data.toList).isSome := ⟨_, rfl⟩
    obtain ⟨q, hq⟩ : ∃ q, q = (exF two.data.toList aj.data.toList).isSome := ⟨_, rfl⟩
    have HWL := Lib.hid (show wantL one.data.toList two.data.toList aj.data.toList = (if p = true then 0 else if q = true then 1 else -1) from by rw [hp, hq]; rfl)
    have HP := Lib.hid hp
    have HQ := Lib.hid hq
    rw [← hp] at HX1
    rw [← hq] at HX2
    clear hp hq hal
    cases p
    · cases q
      · by_cases hjn : j = n
        · have hjeq : ((j : Int) == (n : Int)) = true := by simp; omega
          have STOP := Lib.hid (show stopF one.data.toList two.data.toList ds [] = (-1, 0, aj.data.toList) from by
            rw [HST.out, List.drop_of_length_le (by omega)]
            unfold stopF
            rw [HWL.out]; rfl)
          have OKF := Lib.hid (HOK.out (by rw [List.drop_of_length_le (by omega)]; exact HAL.out))
          go_wp2_with (first | ((with_reducible refine (HX1.out _).mono ?_); rintro e w' ⟨rfl, rfl⟩) | ((with_reducible refine (HX2.out _).mono ?_); rintro e w' ⟨rfl, rfl⟩) | fail)
          obtain ⟨hR, hOk⟩ := first_wait one two fin wt ds (n + 1) false 0 0 [] (by omega) (Int.le_refl 0) (by omega) OKF.out
          have C := wait_any (cs := fcs one two) HT.out c1' 1125899906842624 2251799813685248 (n + 1) hOk (by decide) (by decide)
          rw [STOP.out] at hR
          have hKB := HT.out.line.inn
          rcases hR with ⟨_, kd, cl, s', hr, hk1, hk2, hds'⟩ | ⟨h, _⟩
          rotate_left
          · exact absurd h (show ¬ ((0 : Int) ≤ -1) by decide)
          rw [hr] at C
          have C := Lib.hid C
          have ek1 : (kd == 1) = false := by simpa using hk1
          have ek2 : (kd == 2) = false := by simpa using hk2
          have HDS' := Lib.hid hds'
          have bk1 : (kd != 1) = true := by simpa using hk1
          have bk2 : (kd != 2) = true := by simpa using hk2
          clear hr hds' hOk HX1 HX2
          go_wp2_with fail
          refine C.out.mono ?_
          rintro e w4 h4
          obtain ⟨Y4, D4, m4, d4, rfl, r4, f4, t4, y4, k4⟩ := h4.open_
          have ba4 := (Below.refl w4.heap.size w4).alloc (Nat.le_refl _) (.cells #[.int .i64 kd, .int .i64 cl, .slice D4 m4 d4, .int .i64 0] 105)
          have T4 := Lib.hid (t4.below ba4)
          have N4 := T4.out.line.rest
          rw [HDS'.out] at N4
          have N4 := Lib.hid (show Calls _ _ _ _ (fun e w' => e = .returned (.int .i64 0) ∧ w' = _) from N4)
          have CB := Lib.hid T4.out.buf.bytes
          clear h4 r4 f4 t4 k4 ba4 C
          go_wp2_with fail
          refine N4.out.mono ?_
          rintro e w4' ⟨rfl, rfl⟩
          go_wp2_with fail
          refine CB.out.mono ?_
          rintro e w6 ⟨A6, c6, rfl, r6, -, b6⟩
          have hst6 : (convert 52 9 (.slice A6 aj.size c6)).run Try.prog w6 = .ok (.string aj) w6 := by
            have := conv_str r6.bytes c6
            rwa [str_of] at this
          have FIN := Lib.hid (BA.out.trans ((T4.out.line.old.trans (b6.mono T4.out.line.old.size)).mono HW.out))
          clear r6 b6 CB N4
          go_wp2
          go_ret
          exact ⟨rfl, FIN.out⟩

        · have hjn' : ((j : Int) == (n : Int)) = false := by simp; omega
          obtain ⟨b, o, rfl, hb, hc⟩ := A3.out.2.2.2 (by omega)
          obtain ⟨k, hk⟩ : ∃ k, cks[j]? = some k := ⟨cks[j]'(by omega), List.getElem?_eq_getElem _⟩
          obtain ⟨z0, z1⟩ := hc j k hk
          obtain ⟨hkb, hkm⟩ := A3.out.2.2.1 k (List.mem_of_getElem? hk)
          obtain ⟨kw, kA, km, kd, kbs⟩ := k
          dsimp only at z0 z1 hkb hkm
          have hcv := conv_str hkb kd
          obtain ⟨ks, hks⟩ : ∃ ks : ByteArray, ks = ⟨kbs.toArray⟩ := ⟨_, rfl⟩
          have hkl : ks.size = km := by rw [hks]; exact hkb.1
          rw [← hks] at hcv
          have hov : ¬ 9223372036854775807 < aj.size + ks.size := by omega
          have hdr : ds.drop j = (kw, kbs) :: ds.drop (j + 1) := by
            have hd : ds[j]? = some (kw, kbs) := by
              rw [HDS.out]; unfold plainD; rw [List.getElem?_map, hk]; rfl
            obtain ⟨hl, e⟩ := List.getElem?_eq_some_iff.1 hd
            rw [List.drop_eq_getElem_cons hl, e]
          have hap : (aj ++ ks).data.toList = aj.data.toList ++ kbs := by rw [hks]; simp
          have HW1 : wantL one.data.toList two.data.toList aj.data.toList = -1 := by rw [HWL.out]; rfl
          have ST2 := Lib.hid (show stopF one.data.toList two.data.toList ds [] = stopF one.data.toList two.data.toList (ds.drop (j + 1)) (aj ++ ks).data.toList from by
            rw [HST.out, hdr, hap]
            conv => lhs; unfold stopF
            rw [if_neg (by rw [HW1]; decide)])
          have OK2 := Lib.hid (fun (h : okF one.data.toList two.data.toList (ds.drop (j + 1)) (aj ++ ks).data.toList) => HOK.out (by
            rw [hdr]
            exact ⟨HAL.out, fun _ => hap ▸ h⟩))
          have SZ2 := Lib.hid (show (aj ++ ks).size ≤ 140737488360000 from by rw [ByteArray.size_append]; omega)
          clear hks hdr hap HW1 hkb hc hk
          go_wp2_with (first | ((with_reducible refine (HX1.out _).mono ?_); rintro e w' ⟨rfl, rfl⟩) | ((with_reducible refine (HX2.out _).mono ?_); rintro e w' ⟨rfl, rfl⟩) | fail)
          go_roundw
          case rel => exact ⟨j + 1, aj ++ ks, _, by omega, by go_num, rfl, rfl, rfl, ST2.out, OK2.out, SZ2.out, (by first | rfl | trivial)⟩
          case measure => simp [intOf]; omega
      · have STOP := Lib.hid (show stopF one.data.toList two.data.toList ds [] = (1, n - j, aj.data.toList) from by
          rw [HST.out]
          have hd : (ds.drop j).length = n - j := by rw [List.length_drop, hdl]
          have hw : wantL one.data.toList two.data.toList aj.data.toList = 1 := by rw [HWL.out]; rfl
          cases hdj : ds.drop j with
          | nil => rw [hdj] at hd; unfold stopF; rw [hw]; simp at hd; rw [show n - j = 0 by omega]
          | cons d r => rw [hdj] at hd; unfold stopF; rw [if_pos (by rw [hw]; decide), hw]; simp at hd; rw [hd])
        have OKF := Lib.hid (HOK.out (by
          cases hdj : ds.drop j with
          | nil => exact HAL.out
          | cons d r => exact ⟨HAL.out, fun h => by rw [HWL.out] at h; simp at h⟩))
        go_wp2_with (first | ((with_reducible refine (HX1.out _).mono ?_); rintro e w' ⟨rfl, rfl⟩) | ((with_reducible refine (HX2.out _).mono ?_); rintro e w' ⟨rfl, rfl⟩) | fail)
        obtain ⟨hR, hOk⟩ := first_wait one two fin wt ds (n + 1) false 0 0 [] (by omega) (Int.le_refl 0) (by omega) OKF.out
        have C := wait_any (cs := fcs one two) HT.out c1' 1125899906842624 2251799813685248 (n + 1) hOk (by decide) (by decide)
        rw [STOP.out] at hR
        have hKB := HT.out.line.inn
        rcases hR with ⟨h, _⟩ | ⟨_, s', bs', hr, hlen⟩
        · exact absurd h (show ¬ ((1 : Int) < 0) by decide)
        rw [hr] at C
        replace C : Calls Try.prog 44 _ _ (WaitP _ _ _ _ _ _ _ _ _ _ _ _ _ (⟨1, 1, two.data.toList, 0⟩, s', bs')) := C
        replace C := Lib.hid C
        have hsub : IntKind.i64.wrap ((n : Int) - (j : Int)) = ((n - j : Nat) : Int) := by rw [IntWalk.i64_in _ (by omega)]; omega
        have HLEN := Lib.hid (show s'.ds.length = n - j from hlen)
        obtain ⟨nj, hnj⟩ : ∃ nj, nj = n - j := ⟨_, rfl⟩
        rw [← hnj] at hsub HLEN
        clear hr hlen hOk HX1 hnj
        go_wp2_with fail
        refine C.out.mono ?_
        rintro e w4 h4
        obtain ⟨Y4, D4, m4, d4, rfl, r4, f4, t4, y4, k4⟩ := h4.open_
        have hm4 : two.size = m4 := r4.len
        subst hm4
        have ba4 := (Below.refl w4.heap.size w4).alloc (Nat.le_refl _) (.cells #[.int .i64 1, .int .i64 1, .slice D4 two.size d4, .int .i64 0] 105)
        have T4 := Lib.hid (t4.below ba4)
        obtain ⟨v0, v1, v2, -⟩ := blk3 (TB0.out.below t4.line.old hlt0)
        have hlt4 : w.heap.size < w4.heap.size := Nat.lt_of_lt_of_le hlt0 t4.line.old.size
        have DR : Below (w4.alloc (.cells #[.int .i64 1, .int .i64 1, .slice D4 two.size d4, .int .i64 0] 105)).heap.size (w4.alloc (.cells #[.int .i64 1, .int .i64 1, .slice D4 two.size d4, .int .i64 0] 105)) (w4.alloc (.cells #[.int .i64 1, .int .i64 1, .slice D4 two.size d4, .int .i64 0] 105)).drew := (Below.refl _ _).drew
        have T4d := Lib.hid (T4.out.below DR)
        have N4 := T4d.out.line.rest
        rw [HLEN.out] at N4
        have N4 := Lib.hid N4
        have P4 := Lib.hid ((Blk.new w4 105 #[.int .i64 1, .int .i64 1, .slice D4 two.size d4, .int .i64 0]).below DR (by simp))
        have S4 := Lib.hid (((TB0.out.below t4.line.old hlt0).below ba4 hlt4).below DR (by simp; omega))
        have HR4 := Lib.hid ((r4.bytes.below ba4).below DR)
        have SFX := Lib.hid (fun (V : World) (hV : Below (w4.alloc (.cells #[.int .i64 1, .int .i64 1, .slice D4 two.size d4, .int .i64 0] 105)).drew.heap.size (w4.alloc (.cells #[.int .i64 1, .int .i64 1, .slice D4 two.size d4, .int .i64 0] 105)).drew V) => show V.cell? ⟨w4.heap.size, 0, none⟩ = some (.int .i64 1) ∧ V.cell? ⟨w4.heap.size, 1, none⟩ = some (.int .i64 1) ∧ V.cell? ⟨w4.heap.size, 2, none⟩ = some (.slice D4 two.size d4) ∧ V.cell? ⟨w.heap.size, 0, none⟩ = some (.slice A n c) ∧ (convert 52 9 (.slice D4 two.size d4)).run Try.prog V = .ok (.string two) V from by
          have p4 := P4.out.below hV (P4.out.lt)
          have s4 := S4.out.below hV (S4.out.lt)
          have h4 := conv_str (HR4.out.below hV) d4
          rw [str_of] at h4
          exact ⟨p4.cell 0, p4.cell 1, p4.cell 2, s4.cell 0, h4⟩)
        have SF := Lib.hid (SFX.out _ (Below.refl _ _))
        have SG := Lib.hid (fun (o : Obj) => SFX.out _ ((Below.refl _ (w4.alloc (.cells #[.int .i64 1, .int .i64 1, .slice D4 two.size d4, .int .i64 0] 105)).drew).alloc (Nat.le_refl _) o))
        have FIN := Lib.hid (fun (o : Obj) => BA.out.trans ((T4d.out.line.old.alloc T4d.out.line.old.size o).mono HW.out))
        have mixed : Try.prog.follows .mixedOrders = true := by kernel_rfl
        clear h4 r4 f4 t4 k4 ba4 C DR v0 v1 v2
        go_wp2_with fail
        refine wp_region_held_drew (S := fun V => V.cell? ⟨w4.heap.size, 0, none⟩ = some (.int .i64 1) ∧ V.cell? ⟨w4.heap.size, 1, none⟩ = some (.int .i64 1) ∧ V.cell? ⟨w4.heap.size, 2, none⟩ = some (.slice D4 two.size d4) ∧ V.cell? ⟨w.heap.size, 0, none⟩ = some (.slice A n c) ∧ (convert 52 9 (.slice D4 two.size d4)).run Try.prog V = .ok (.string two) V) mixed SF.out (fun hS => ?_)
        refine wpAnyH_take (i := 0) (v := .pointer (some ⟨w4.heap.size, 0, none⟩)) rfl (by kernel_rfl) (by kernel_rfl) (by kernel_rfl) (fun _ _ _ h => h) (Or.inl ⟨by rfl, fun W hW => by obtain ⟨h0, h1, h2, h3, h4⟩ := hW; go_simp⟩) hS ?_
        refine wpAnyH_take (i := 1) (v := .int .i64 1) rfl (by kernel_rfl) (by kernel_rfl) (by kernel_rfl) (fun _ _ _ h => h) (Or.inl ⟨by rfl, fun W hW => by obtain ⟨h0, h1, h2, h3, h4⟩ := hW; go_simp⟩) hS ?_
        try simp only [Act.put, List.getElem_toArray, List.getElem_cons_zero, List.getElem_cons_succ, List.setIfInBounds_toArray, List.set_cons_zero, List.set_cons_succ]
        refine wpAnyH_take (i := 2) (v := .bool true) rfl (by kernel_rfl) (by kernel_rfl) (by kernel_rfl) (fun _ _ _ h => h) (Or.inl ⟨by rfl, fun W hW => by obtain ⟨h0, h1, h2, h3, h4⟩ := hW; go_simp⟩) hS ?_
        try simp only [Act.put, List.getElem_toArray, List.getElem_cons_zero, List.getElem_cons_succ, List.setIfInBounds_toArray, List.set_cons_zero, List.set_cons_succ]
        refine wpAnyH_take (i := 3) (v := .bool true) rfl (by kernel_rfl) (by kernel_rfl) (by kernel_rfl) (fun _ _ _ h => h) (Or.inl ⟨by rfl, fun W hW => by obtain ⟨h0, h1, h2, h3, h4⟩ := hW; go_simp⟩) hS ?_
        try simp only [Act.put, List.getElem_toArray, List.getElem_cons_zero, List.getElem_cons_succ, List.setIfInBounds_toArray, List.set_cons_zero, List.set_cons_succ]
        refine wpAnyH_take (i := 4) (v := .pointer (some ⟨w4.heap.size, 1, none⟩)) rfl (by kernel_rfl) (by kernel_rfl) (by kernel_rfl) (fun _ _ _ h => h) (Or.inl ⟨by rfl, fun W hW => by obtain ⟨h0, h1, h2, h3, h4⟩ := hW; go_simp⟩) hS ?_
        try simp only [Act.put, List.getElem_toArray, List.getElem_cons_zero, List.getElem_cons_succ, List.setIfInBounds_toArray, List.set_cons_zero, List.set_cons_succ]
        refine wpAnyH_take (i := 5) (v := .int .i64 1) rfl (by kernel_rfl) (by kernel_rfl) (by kernel_rfl) (fun _ _ _ h => h) (Or.inl ⟨by rfl, fun W hW => by obtain ⟨h0, h1, h2, h3, h4⟩ := hW; go_simp⟩) hS ?_
        try simp only [Act.put, List.getElem_toArray, List.getElem_cons_zero, List.getElem_cons_succ, List.setIfInBounds_toArray, List.set_cons_zero, List.set_cons_succ]
        refine wpAnyH_take (i := 6) (v := .int .i64 1) rfl (by kernel_rfl) (by kernel_rfl) (by kernel_rfl) (fun _ _ _ h => h) (Or.inl ⟨by rfl, fun W hW => by obtain ⟨h0, h1, h2, h3, h4⟩ := hW; go_simp⟩) hS ?_
        try simp only [Act.put, List.getElem_toArray, List.getElem_cons_zero, List.getElem_cons_succ, List.setIfInBounds_toArray, List.set_cons_zero, List.set_cons_succ]
        refine wpAnyH_take (i := 7) (v := .bool true) rfl (by kernel_rfl) (by kernel_rfl) (by kernel_rfl) (fun _ _ _ h => h) (Or.inl ⟨by rfl, fun W hW => by obtain ⟨h0, h1, h2, h3, h4⟩ := hW; go_simp⟩) hS ?_
        try simp only [Act.put, List.getElem_toArray, List.getElem_cons_zero, List.getElem_cons_succ, List.setIfInBounds_toArray, List.set_cons_zero, List.set_cons_succ]
        refine wpAnyH_take (i := 8) (v := .bool true) rfl (by kernel_rfl) (by kernel_rfl) (by kernel_rfl) (fun _ _ _ h => h) (Or.inl ⟨by rfl, fun W hW => by obtain ⟨h0, h1, h2, h3, h4⟩ := hW; go_simp⟩) hS ?_
        try simp only [Act.put, List.getElem_toArray, List.getElem_cons_zero, List.getElem_cons_succ, List.setIfInBounds_toArray, List.set_cons_zero, List.set_cons_succ]
        refine wpAnyH_take (i := 9) (v := .bool true) rfl (by kernel_rfl) (by kernel_rfl) (by kernel_rfl) (fun _ _ _ h => h) (Or.inl ⟨by rfl, fun W hW => by obtain ⟨h0, h1, h2, h3, h4⟩ := hW; go_simp⟩) hS ?_
        try simp only [Act.put, List.getElem_toArray, List.getElem_cons_zero, List.getElem_cons_succ, List.setIfInBounds_toArray, List.set_cons_zero, List.set_cons_succ]
        refine wpAnyH_take (i := 10) (v := .pointer (some ⟨lp, 0, none⟩)) rfl (by kernel_rfl) (by kernel_rfl) (by kernel_rfl) (fun _ _ _ h => h) (Or.inl ⟨by rfl, fun W hW => by obtain ⟨h0, h1, h2, h3, h4⟩ := hW; go_simp⟩) hS ?_
        try simp only [Act.put, List.getElem_toArray, List.getElem_cons_zero, List.getElem_cons_succ, List.setIfInBounds_toArray, List.set_cons_zero, List.set_cons_succ]
        refine wpAnyH_take (i := 12) (v := .pointer (some ⟨w.heap.size, 0, none⟩)) rfl (by kernel_rfl) (by kernel_rfl) (by kernel_rfl) (fun _ _ _ h => h) (Or.inl ⟨by rfl, fun W hW => by obtain ⟨h0, h1, h2, h3, h4⟩ := hW; go_simp⟩) hS ?_
        try simp only [Act.put, List.getElem_toArray, List.getElem_cons_zero, List.getElem_cons_succ, List.setIfInBounds_toArray, List.set_cons_zero, List.set_cons_succ]
        refine wpAnyH_take (i := 13) (v := .slice A n c) rfl (by kernel_rfl) (by kernel_rfl) (by kernel_rfl) (fun _ _ _ h => h) (Or.inl ⟨by rfl, fun W hW => by obtain ⟨h0, h1, h2, h3, h4⟩ := hW; go_simp⟩) hS ?_
        try simp only [Act.put, List.getElem_toArray, List.getElem_cons_zero, List.getElem_cons_succ, List.setIfInBounds_toArray, List.set_cons_zero, List.set_cons_succ]
        refine wpAnyH_take (i := 14) (v := .int .i64 (n : Nat)) rfl (by kernel_rfl) (by kernel_rfl) (by kernel_rfl) (fun _ _ _ h => h) (Or.inl ⟨by rfl, fun W hW => by obtain ⟨h0, h1, h2, h3, h4⟩ := hW; go_simp⟩) hS ?_
        try simp only [Act.put, List.getElem_toArray, List.getElem_cons_zero, List.getElem_cons_succ, List.setIfInBounds_toArray, List.set_cons_zero, List.set_cons_succ]
        refine wpAnyH_take (i := 15) (v := .int .i64 (j : Nat)) rfl (by kernel_rfl) (by kernel_rfl) (by kernel_rfl) (fun _ _ _ h => h) (Or.inl ⟨by rfl, fun W hW => by obtain ⟨h0, h1, h2, h3, h4⟩ := hW; go_simp⟩) hS ?_
        try simp only [Act.put, List.getElem_toArray, List.getElem_cons_zero, List.getElem_cons_succ, List.setIfInBounds_toArray, List.set_cons_zero, List.set_cons_succ]
        refine wpAnyH_take (i := 16) (v := .int .i64 (nj : Nat)) rfl (by kernel_rfl) (by kernel_rfl) (by kernel_rfl) (fun _ _ _ h => h) (Or.inl ⟨by rfl, fun W hW => by obtain ⟨h0, h1, h2, h3, h4⟩ := hW; go_simp⟩) hS ?_
        try simp only [Act.put, List.getElem_toArray, List.getElem_cons_zero, List.getElem_cons_succ, List.setIfInBounds_toArray, List.set_cons_zero, List.set_cons_succ]
        refine wpAnyH_ready (rs := [11]) (by kernel_rfl) (by simp) ?_
        refine AllReadyH.cons rfl (fun K hK => ?_) AllReadyH.nil
        go_simp
        refine N4.out.mono ?_
        rintro e V2 ⟨rfl, rfl⟩
        refine hK.out _ _ SF.out (fun hS => ?_)
        clear hK K
        refine wpAnyH_take (i := 17) (v := .bool true) rfl (by kernel_rfl) (by kernel_rfl) (by kernel_rfl) (fun _ _ _ h => h) (Or.inl ⟨by rfl, fun W hW => by obtain ⟨h0, h1, h2, h3, h4⟩ := hW; go_simp⟩) hS ?_
        try simp only [Act.put, List.getElem_toArray, List.getElem_cons_zero, List.getElem_cons_succ, List.setIfInBounds_toArray, List.set_cons_zero, List.set_cons_succ]
        refine wpAnyH_take (i := 18) (v := .bool true) rfl (by kernel_rfl) (by kernel_rfl) (by kernel_rfl) (fun _ _ _ h => h) (Or.inl ⟨by rfl, fun W hW => by obtain ⟨h0, h1, h2, h3, h4⟩ := hW; go_simp⟩) hS ?_
        try simp only [Act.put, List.getElem_toArray, List.getElem_cons_zero, List.getElem_cons_succ, List.setIfInBounds_toArray, List.set_cons_zero, List.set_cons_succ]
        refine wpAnyH_take (i := 19) (v := .bool true) rfl (by kernel_rfl) (by kernel_rfl) (by kernel_rfl) (fun _ _ _ h => h) (Or.inl ⟨by rfl, fun W hW => by obtain ⟨h0, h1, h2, h3, h4⟩ := hW; go_simp⟩) hS ?_
        try simp only [Act.put, List.getElem_toArray, List.getElem_cons_zero, List.getElem_cons_succ, List.setIfInBounds_toArray, List.set_cons_zero, List.set_cons_succ]
        refine wpAnyH_take (i := 20) (v := .pointer (some ⟨w4.heap.size, 2, none⟩)) rfl (by kernel_rfl) (by kernel_rfl) (by kernel_rfl) (fun _ _ _ h => h) (Or.inl ⟨by rfl, fun W hW => by obtain ⟨h0, h1, h2, h3, h4⟩ := hW; go_simp⟩) hS ?_
        try simp only [Act.put, List.getElem_toArray, List.getElem_cons_zero, List.getElem_cons_succ, List.setIfInBounds_toArray, List.set_cons_zero, List.set_cons_succ]
        refine wpAnyH_take (i := 21) (v := .slice D4 two.size d4) rfl (by kernel_rfl) (by kernel_rfl) (by kernel_rfl) (fun _ _ _ h => h) (Or.inl ⟨by rfl, fun W hW => by obtain ⟨h0, h1, h2, h3, h4⟩ := hW; go_simp⟩) hS ?_
        try simp only [Act.put, List.getElem_toArray, List.getElem_cons_zero, List.getElem_cons_succ, List.setIfInBounds_toArray, List.set_cons_zero, List.set_cons_succ]
        refine wpAnyH_take (i := 22) (v := .string two) rfl (by kernel_rfl) (by kernel_rfl) (by kernel_rfl) (fun _ _ _ h => h) (Or.inl ⟨by rfl, fun W hW => by obtain ⟨h0, h1, h2, h3, h4⟩ := hW; go_simp⟩) hS ?_
        try simp only [Act.put, List.getElem_toArray, List.getElem_cons_zero, List.getElem_cons_succ, List.setIfInBounds_toArray, List.set_cons_zero, List.set_cons_succ]
        refine wpAnyH_take (i := 23) (v := .string one) rfl (by kernel_rfl) (by kernel_rfl) (by kernel_rfl) (fun _ _ _ h => h) (Or.inl ⟨by rfl, fun W hW => by obtain ⟨h0, h1, h2, h3, h4⟩ := hW; go_simp⟩) hS ?_
        try simp only [Act.put, List.getElem_toArray, List.getElem_cons_zero, List.getElem_cons_succ, List.setIfInBounds_toArray, List.set_cons_zero, List.set_cons_succ]
        refine wpAnyH_take (i := 24) (v := .string two) rfl (by kernel_rfl) (by kernel_rfl) (by kernel_rfl) (fun _ _ _ h => h) (Or.inl ⟨by rfl, fun W hW => by obtain ⟨h0, h1, h2, h3, h4⟩ := hW; go_simp⟩) hS ?_
        try simp only [Act.put, List.getElem_toArray, List.getElem_cons_zero, List.getElem_cons_succ, List.setIfInBounds_toArray, List.set_cons_zero, List.set_cons_succ]
        refine wpAnyH_take (i := 26) (v := .int .i64 1) rfl (by kernel_rfl) (by kernel_rfl) (by kernel_rfl) (fun _ _ _ h => h) (Or.inl ⟨by rfl, fun W hW => by obtain ⟨h0, h1, h2, h3, h4⟩ := hW; go_simp⟩) hS ?_
        try simp only [Act.put, List.getElem_toArray, List.getElem_cons_zero, List.getElem_cons_succ, List.setIfInBounds_toArray, List.set_cons_zero, List.set_cons_succ]
        refine wpAnyH_ready (rs := [25]) (by kernel_rfl) (by simp) ?_
        refine AllReadyH.cons rfl (fun K hK => ?_) AllReadyH.nil
        go_simp
        refine hK.out _ _ (SG.out _) (fun hS => ?_)
        clear hK K
        refine wpAnyH_ready (rs := [27]) (by kernel_rfl) (by simp) ?_
        refine AllReadyH.cons rfl (fun K hK => ?_) AllReadyH.nil
        go_simp
        refine hK.out _ _ hS (fun hS => ?_)
        clear hK K
        refine wpAnyH_ready (rs := [28]) (by kernel_rfl) (by simp) ?_
        refine AllReadyH.cons rfl (fun K hK => ?_) AllReadyH.nil
        go_simp
        refine hK.out _ _ hS (fun hS => ?_)
        clear hK K
        refine wpAnyH_ready (rs := [29]) (by kernel_rfl) (by simp) ?_
        refine AllReadyH.cons rfl (fun K hK => ?_) AllReadyH.nil
        go_simp
        refine hK.out _ _ hS (fun hS => ?_)
        clear hK K
        refine wpAnyH_ready (rs := [30]) (by kernel_rfl) (by simp) ?_
        refine AllReadyH.cons rfl (fun K hK => ?_) AllReadyH.nil
        go_simp
        refine hK.out _ _ hS (fun hS => ?_)
        clear hK K
        refine wpAnyH_ready (rs := [31]) (by kernel_rfl) (by simp) ?_
        refine AllReadyH.cons rfl (fun K hK => ?_) AllReadyH.nil
        go_simp
        refine hK.out _ _ hS (fun hS => ?_)
        clear hK K
        refine wpAnyH_done (by kernel_rfl) ?_ _
        clear hS
        go_wp2
        go_ret
        exact ⟨rfl, FIN.out _⟩

    · have STOP := Lib.hid (show stopF one.data.toList two.data.toList ds [] = (0, n - j, aj.data.toList) from by
        rw [HST.out]
        have hd : (ds.drop j).length = n - j := by rw [List.length_drop, hdl]
        have hw : wantL one.data.toList two.data.toList aj.data.toList = 0 := by rw [HWL.out]; rfl
        cases hdj : ds.drop j with
        | nil => rw [hdj] at hd; unfold stopF; rw [hw]; simp at hd; rw [show n - j = 0 by omega]
        | cons d r => rw [hdj] at hd; unfold stopF; rw [if_pos (by rw [hw]; decide), hw]; simp at hd; rw [hd])
      have OKF := Lib.hid (HOK.out (by
        cases hdj : ds.drop j with
        | nil => exact HAL.out
        | cons d r => exact ⟨HAL.out, fun h => by rw [HWL.out] at h; simp at h⟩))
      go_wp2_with (first | ((with_reducible refine (HX1.out _).mono ?_); rintro e w' ⟨rfl, rfl⟩) | fail)
      obtain ⟨hR, hOk⟩ := first_wait one two fin wt ds (n + 1) false 0 0 [] (by omega) (Int.le_refl 0) (by omega) OKF.out
      have C := wait_any (cs := fcs one two) HT.out c1' 1125899906842624 2251799813685248 (n + 1) hOk (by decide) (by decide)
      rw [STOP.out] at hR
      have hKB := HT.out.line.inn
      rcases hR with ⟨h, _⟩ | ⟨_, s', bs', hr, hlen⟩
      · exact absurd h (show ¬ ((0 : Int) < 0) by decide)
      rw [hr] at C
      replace C : Calls Try.prog 44 _ _ (WaitP _ _ _ _ _ _ _ _ _ _ _ _ _ (⟨1, 0, one.data.toList, 0⟩, s', bs')) := C
      replace C := Lib.hid C
      have hsub : IntKind.i64.wrap ((n : Int) - (j : Int)) = ((n - j : Nat) : Int) := by rw [IntWalk.i64_in _ (by omega)]; omega
      have HLEN := Lib.hid (show s'.ds.length = n - j from hlen)
      obtain ⟨nj, hnj⟩ : ∃ nj, nj = n - j := ⟨_, rfl⟩
      rw [← hnj] at hsub HLEN
      clear hr hlen hOk HX1 hnj
      go_wp2_with fail
      refine C.out.mono ?_
      rintro e w4 h4
      obtain ⟨Y4, D4, m4, d4, rfl, r4, f4, t4, y4, k4⟩ := h4.open_
      have hm4 : one.size = m4 := r4.len
      subst hm4
      have ba4 := (Below.refl w4.heap.size w4).alloc (Nat.le_refl _) (.cells #[.int .i64 1, .int .i64 0, .slice D4 one.size d4, .int .i64 0] 105)
      have T4 := Lib.hid (t4.below ba4)
      obtain ⟨v0, v1, v2, -⟩ := blk3 (TB0.out.below t4.line.old hlt0)
      have hlt4 : w.heap.size < w4.heap.size := Nat.lt_of_lt_of_le hlt0 t4.line.old.size
      have DR : Below (w4.alloc (.cells #[.int .i64 1, .int .i64 0, .slice D4 one.size d4, .int .i64 0] 105)).heap.size (w4.alloc (.cells #[.int .i64 1, .int .i64 0, .slice D4 one.size d4, .int .i64 0] 105)) (w4.alloc (.cells #[.int .i64 1, .int .i64 0, .slice D4 one.size d4, .int .i64 0] 105)).drew := (Below.refl _ _).drew
      have T4d := Lib.hid (T4.out.below DR)
      have N4 := T4d.out.line.rest
      rw [HLEN.out] at N4
      have N4 := Lib.hid N4
      have P4 := Lib.hid ((Blk.new w4 105 #[.int .i64 1, .int .i64 0, .slice D4 one.size d4, .int .i64 0]).below DR (by simp))
      have S4 := Lib.hid (((TB0.out.below t4.line.old hlt0).below ba4 hlt4).below DR (by simp; omega))
      have HR4 := Lib.hid ((r4.bytes.below ba4).below DR)
      have SFX := Lib.hid (fun (V : World) (hV : Below (w4.alloc (.cells #[.int .i64 1, .int .i64 0, .slice D4 one.size d4, .int .i64 0] 105)).drew.heap.size (w4.alloc (.cells #[.int .i64 1, .int .i64 0, .slice D4 one.size d4, .int .i64 0] 105)).drew V) => show V.cell? ⟨w4.heap.size, 0, none⟩ = some (.int .i64 1) ∧ V.cell? ⟨w4.heap.size, 1, none⟩ = some (.int .i64 0) ∧ V.cell? ⟨w4.heap.size, 2, none⟩ = some (.slice D4 one.size d4) ∧ V.cell? ⟨w.heap.size, 0, none⟩ = some (.slice A n c) ∧ (convert 52 9 (.slice D4 one.size d4)).run Try.prog V = .ok (.string one) V from by
        have p4 := P4.out.below hV (P4.out.lt)
        have s4 := S4.out.below hV (S4.out.lt)
        have h4 := conv_str (HR4.out.below hV) d4
        rw [str_of] at h4
        exact ⟨p4.cell 0, p4.cell 1, p4.cell 2, s4.cell 0, h4⟩)
      have SF := Lib.hid (SFX.out _ (Below.refl _ _))
      have SG := Lib.hid (fun (o : Obj) => SFX.out _ ((Below.refl _ (w4.alloc (.cells #[.int .i64 1, .int .i64 0, .slice D4 one.size d4, .int .i64 0] 105)).drew).alloc (Nat.le_refl _) o))
      have FIN := Lib.hid (fun (o : Obj) => BA.out.trans ((T4d.out.line.old.alloc T4d.out.line.old.size o).mono HW.out))
      have mixed : Try.prog.follows .mixedOrders = true := by kernel_rfl
      clear h4 r4 f4 t4 k4 ba4 C DR v0 v1 v2
      go_wp2_with fail
      refine wp_region_held_drew (S := fun V => V.cell? ⟨w4.heap.size, 0, none⟩ = some (.int .i64 1) ∧ V.cell? ⟨w4.heap.size, 1, none⟩ = some (.int .i64 0) ∧ V.cell? ⟨w4.heap.size, 2, none⟩ = some (.slice D4 one.size d4) ∧ V.cell? ⟨w.heap.size, 0, none⟩ = some (.slice A n c) ∧ (convert 52 9 (.slice D4 one.size d4)).run Try.prog V = .ok (.string one) V) mixed SF.out (fun hS => ?_)
      refine wpAnyH_take (i := 0) (v := .pointer (some ⟨w4.heap.size, 0, none⟩)) rfl (by kernel_rfl) (by kernel_rfl) (by kernel_rfl) (fun _ _ _ h => h) (Or.inl ⟨by rfl, fun W hW => by obtain ⟨h0, h1, h2, h3, h4⟩ := hW; go_simp⟩) hS ?_
      refine wpAnyH_take (i := 1) (v := .int .i64 1) rfl (by kernel_rfl) (by kernel_rfl) (by kernel_rfl) (fun _ _ _ h => h) (Or.inl ⟨by rfl, fun W hW => by obtain ⟨h0, h1, h2, h3, h4⟩ := hW; go_simp⟩) hS ?_
      try simp only [Act.put, List.getElem_toArray, List.getElem_cons_zero, List.getElem_cons_succ, List.setIfInBounds_toArray, List.set_cons_zero, List.set_cons_succ]
      refine wpAnyH_take (i := 2) (v := .bool true) rfl (by kernel_rfl) (by kernel_rfl) (by kernel_rfl) (fun _ _ _ h => h) (Or.inl ⟨by rfl, fun W hW => by obtain ⟨h0, h1, h2, h3, h4⟩ := hW; go_simp⟩) hS ?_
      try simp only [Act.put, List.getElem_toArray, List.getElem_cons_zero, List.getElem_cons_succ, List.setIfInBounds_toArray, List.set_cons_zero, List.set_cons_succ]
      refine wpAnyH_take (i := 3) (v := .bool true) rfl (by kernel_rfl) (by kernel_rfl) (by kernel_rfl) (fun _ _ _ h => h) (Or.inl ⟨by rfl, fun W hW => by obtain ⟨h0, h1, h2, h3, h4⟩ := hW; go_simp⟩) hS ?_
      try simp only [Act.put, List.getElem_toArray, List.getElem_cons_zero, List.getElem_cons_succ, List.setIfInBounds_toArray, List.set_cons_zero, List.set_cons_succ]
      refine wpAnyH_take (i := 4) (v := .pointer (some ⟨w4.heap.size, 1, none⟩)) rfl (by kernel_rfl) (by kernel_rfl) (by kernel_rfl) (fun _ _ _ h => h) (Or.inl ⟨by rfl, fun W hW => by obtain ⟨h0, h1, h2, h3, h4⟩ := hW; go_simp⟩) hS ?_
      try simp only [Act.put, List.getElem_toArray, List.getElem_cons_zero, List.getElem_cons_succ, List.setIfInBounds_toArray, List.set_cons_zero, List.set_cons_succ]
      refine wpAnyH_take (i := 5) (v := .int .i64 0) rfl (by kernel_rfl) (by kernel_rfl) (by kernel_rfl) (fun _ _ _ h => h) (Or.inl ⟨by rfl, fun W hW => by obtain ⟨h0, h1, h2, h3, h4⟩ := hW; go_simp⟩) hS ?_
      try simp only [Act.put, List.getElem_toArray, List.getElem_cons_zero, List.getElem_cons_succ, List.setIfInBounds_toArray, List.set_cons_zero, List.set_cons_succ]
      refine wpAnyH_take (i := 6) (v := .int .i64 0) rfl (by kernel_rfl) (by kernel_rfl) (by kernel_rfl) (fun _ _ _ h => h) (Or.inl ⟨by rfl, fun W hW => by obtain ⟨h0, h1, h2, h3, h4⟩ := hW; go_simp⟩) hS ?_
      try simp only [Act.put, List.getElem_toArray, List.getElem_cons_zero, List.getElem_cons_succ, List.setIfInBounds_toArray, List.set_cons_zero, List.set_cons_succ]
      refine wpAnyH_take (i := 7) (v := .bool true) rfl (by kernel_rfl) (by kernel_rfl) (by kernel_rfl) (fun _ _ _ h => h) (Or.inl ⟨by rfl, fun W hW => by obtain ⟨h0, h1, h2, h3, h4⟩ := hW; go_simp⟩) hS ?_
      try simp only [Act.put, List.getElem_toArray, List.getElem_cons_zero, List.getElem_cons_succ, List.setIfInBounds_toArray, List.set_cons_zero, List.set_cons_succ]
      refine wpAnyH_take (i := 8) (v := .bool true) rfl (by kernel_rfl) (by kernel_rfl) (by kernel_rfl) (fun _ _ _ h => h) (Or.inl ⟨by rfl, fun W hW => by obtain ⟨h0, h1, h2, h3, h4⟩ := hW; go_simp⟩) hS ?_
      try simp only [Act.put, List.getElem_toArray, List.getElem_cons_zero, List.getElem_cons_succ, List.setIfInBounds_toArray, List.set_cons_zero, List.set_cons_succ]
      refine wpAnyH_take (i := 9) (v := .bool true) rfl (by kernel_rfl) (by kernel_rfl) (by kernel_rfl) (fun _ _ _ h => h) (Or.inl ⟨by rfl, fun W hW => by obtain ⟨h0, h1, h2, h3, h4⟩ := hW; go_simp⟩) hS ?_
      try simp only [Act.put, List.getElem_toArray, List.getElem_cons_zero, List.getElem_cons_succ, List.setIfInBounds_toArray, List.set_cons_zero, List.set_cons_succ]
      refine wpAnyH_take (i := 10) (v := .pointer (some ⟨lp, 0, none⟩)) rfl (by kernel_rfl) (by kernel_rfl) (by kernel_rfl) (fun _ _ _ h => h) (Or.inl ⟨by rfl, fun W hW => by obtain ⟨h0, h1, h2, h3, h4⟩ := hW; go_simp⟩) hS ?_
      try simp only [Act.put, List.getElem_toArray, List.getElem_cons_zero, List.getElem_cons_succ, List.setIfInBounds_toArray, List.set_cons_zero, List.set_cons_succ]
      refine wpAnyH_take (i := 12) (v := .pointer (some ⟨w.heap.size, 0, none⟩)) rfl (by kernel_rfl) (by kernel_rfl) (by kernel_rfl) (fun _ _ _ h => h) (Or.inl ⟨by rfl, fun W hW => by obtain ⟨h0, h1, h2, h3, h4⟩ := hW; go_simp⟩) hS ?_
      try simp only [Act.put, List.getElem_toArray, List.getElem_cons_zero, List.getElem_cons_succ, List.setIfInBounds_toArray, List.set_cons_zero, List.set_cons_succ]
      refine wpAnyH_take (i := 13) (v := .slice A n c) rfl (by kernel_rfl) (by kernel_rfl) (by kernel_rfl) (fun _ _ _ h => h) (Or.inl ⟨by rfl, fun W hW => by obtain ⟨h0, h1, h2, h3, h4⟩ := hW; go_simp⟩) hS ?_
      try simp only [Act.put, List.getElem_toArray, List.getElem_cons_zero, List.getElem_cons_succ, List.setIfInBounds_toArray, List.set_cons_zero, List.set_cons_succ]
      refine wpAnyH_take (i := 14) (v := .int .i64 (n : Nat)) rfl (by kernel_rfl) (by kernel_rfl) (by kernel_rfl) (fun _ _ _ h => h) (Or.inl ⟨by rfl, fun W hW => by obtain ⟨h0, h1, h2, h3, h4⟩ := hW; go_simp⟩) hS ?_
      try simp only [Act.put, List.getElem_toArray, List.getElem_cons_zero, List.getElem_cons_succ, List.setIfInBounds_toArray, List.set_cons_zero, List.set_cons_succ]
      refine wpAnyH_take (i := 15) (v := .int .i64 (j : Nat)) rfl (by kernel_rfl) (by kernel_rfl) (by kernel_rfl) (fun _ _ _ h => h) (Or.inl ⟨by rfl, fun W hW => by obtain ⟨h0, h1, h2, h3, h4⟩ := hW; go_simp⟩) hS ?_
      try simp only [Act.put, List.getElem_toArray, List.getElem_cons_zero, List.getElem_cons_succ, List.setIfInBounds_toArray, List.set_cons_zero, List.set_cons_succ]
      refine wpAnyH_take (i := 16) (v := .int .i64 (nj : Nat)) rfl (by kernel_rfl) (by kernel_rfl) (by kernel_rfl) (fun _ _ _ h => h) (Or.inl ⟨by rfl, fun W hW => by obtain ⟨h0, h1, h2, h3, h4⟩ := hW; go_simp⟩) hS ?_
      try simp only [Act.put, List.getElem_toArray, List.getElem_cons_zero, List.getElem_cons_succ, List.setIfInBounds_toArray, List.set_cons_zero, List.set_cons_succ]
      refine wpAnyH_ready (rs := [11]) (by kernel_rfl) (by simp) ?_
      refine AllReadyH.cons rfl (fun K hK => ?_) AllReadyH.nil
      go_simp
      refine N4.out.mono ?_
      rintro e V2 ⟨rfl, rfl⟩
      refine hK.out _ _ SF.out (fun hS => ?_)
      clear hK K
      refine wpAnyH_take (i := 17) (v := .bool true) rfl (by kernel_rfl) (by kernel_rfl) (by kernel_rfl) (fun _ _ _ h => h) (Or.inl ⟨by rfl, fun W hW => by obtain ⟨h0, h1, h2, h3, h4⟩ := hW; go_simp⟩) hS ?_
      try simp only [Act.put, List.getElem_toArray, List.getElem_cons_zero, List.getElem_cons_succ, List.setIfInBounds_toArray, List.set_cons_zero, List.set_cons_succ]
      refine wpAnyH_take (i := 18) (v := .bool true) rfl (by kernel_rfl) (by kernel_rfl) (by kernel_rfl) (fun _ _ _ h => h) (Or.inl ⟨by rfl, fun W hW => by obtain ⟨h0, h1, h2, h3, h4⟩ := hW; go_simp⟩) hS ?_
      try simp only [Act.put, List.getElem_toArray, List.getElem_cons_zero, List.getElem_cons_succ, List.setIfInBounds_toArray, List.set_cons_zero, List.set_cons_succ]
      refine wpAnyH_take (i := 19) (v := .bool true) rfl (by kernel_rfl) (by kernel_rfl) (by kernel_rfl) (fun _ _ _ h => h) (Or.inl ⟨by rfl, fun W hW => by obtain ⟨h0, h1, h2, h3, h4⟩ := hW; go_simp⟩) hS ?_
      try simp only [Act.put, List.getElem_toArray, List.getElem_cons_zero, List.getElem_cons_succ, List.setIfInBounds_toArray, List.set_cons_zero, List.set_cons_succ]
      refine wpAnyH_take (i := 20) (v := .pointer (some ⟨w4.heap.size, 2, none⟩)) rfl (by kernel_rfl) (by kernel_rfl) (by kernel_rfl) (fun _ _ _ h => h) (Or.inl ⟨by rfl, fun W hW => by obtain ⟨h0, h1, h2, h3, h4⟩ := hW; go_simp⟩) hS ?_
      try simp only [Act.put, List.getElem_toArray, List.getElem_cons_zero, List.getElem_cons_succ, List.setIfInBounds_toArray, List.set_cons_zero, List.set_cons_succ]
      refine wpAnyH_take (i := 21) (v := .slice D4 one.size d4) rfl (by kernel_rfl) (by kernel_rfl) (by kernel_rfl) (fun _ _ _ h => h) (Or.inl ⟨by rfl, fun W hW => by obtain ⟨h0, h1, h2, h3, h4⟩ := hW; go_simp⟩) hS ?_
      try simp only [Act.put, List.getElem_toArray, List.getElem_cons_zero, List.getElem_cons_succ, List.setIfInBounds_toArray, List.set_cons_zero, List.set_cons_succ]
      refine wpAnyH_take (i := 22) (v := .string one) rfl (by kernel_rfl) (by kernel_rfl) (by kernel_rfl) (fun _ _ _ h => h) (Or.inl ⟨by rfl, fun W hW => by obtain ⟨h0, h1, h2, h3, h4⟩ := hW; go_simp⟩) hS ?_
      try simp only [Act.put, List.getElem_toArray, List.getElem_cons_zero, List.getElem_cons_succ, List.setIfInBounds_toArray, List.set_cons_zero, List.set_cons_succ]
      refine wpAnyH_take (i := 23) (v := .string one) rfl (by kernel_rfl) (by kernel_rfl) (by kernel_rfl) (fun _ _ _ h => h) (Or.inl ⟨by rfl, fun W hW => by obtain ⟨h0, h1, h2, h3, h4⟩ := hW; go_simp⟩) hS ?_
      try simp only [Act.put, List.getElem_toArray, List.getElem_cons_zero, List.getElem_cons_succ, List.setIfInBounds_toArray, List.set_cons_zero, List.set_cons_succ]
      refine wpAnyH_take (i := 24) (v := .string two) rfl (by kernel_rfl) (by kernel_rfl) (by kernel_rfl) (fun _ _ _ h => h) (Or.inl ⟨by rfl, fun W hW => by obtain ⟨h0, h1, h2, h3, h4⟩ := hW; go_simp⟩) hS ?_
      try simp only [Act.put, List.getElem_toArray, List.getElem_cons_zero, List.getElem_cons_succ, List.setIfInBounds_toArray, List.set_cons_zero, List.set_cons_succ]
      refine wpAnyH_take (i := 26) (v := .int .i64 0) rfl (by kernel_rfl) (by kernel_rfl) (by kernel_rfl) (fun _ _ _ h => h) (Or.inl ⟨by rfl, fun W hW => by obtain ⟨h0, h1, h2, h3, h4⟩ := hW; go_simp⟩) hS ?_
      try simp only [Act.put, List.getElem_toArray, List.getElem_cons_zero, List.getElem_cons_succ, List.setIfInBounds_toArray, List.set_cons_zero, List.set_cons_succ]
      refine wpAnyH_ready (rs := [25]) (by kernel_rfl) (by simp) ?_
      refine AllReadyH.cons rfl (fun K hK => ?_) AllReadyH.nil
      go_simp
      refine hK.out _ _ (SG.out _) (fun hS => ?_)
      clear hK K
      refine wpAnyH_ready (rs := [27]) (by kernel_rfl) (by simp) ?_
      refine AllReadyH.cons rfl (fun K hK => ?_) AllReadyH.nil
      go_simp
      refine hK.out _ _ hS (fun hS => ?_)
      clear hK K
      refine wpAnyH_ready (rs := [28]) (by kernel_rfl) (by simp) ?_
      refine AllReadyH.cons rfl (fun K hK => ?_) AllReadyH.nil
      go_simp
      refine hK.out _ _ hS (fun hS => ?_)
      clear hK K
      refine wpAnyH_ready (rs := [29]) (by kernel_rfl) (by simp) ?_
      refine AllReadyH.cons rfl (fun K hK => ?_) AllReadyH.nil
      go_simp
      refine hK.out _ _ hS (fun hS => ?_)
      clear hK K
      refine wpAnyH_ready (rs := [30]) (by kernel_rfl) (by simp) ?_
      refine AllReadyH.cons rfl (fun K hK => ?_) AllReadyH.nil
      go_simp
      refine hK.out _ _ hS (fun hS => ?_)
      clear hK K
      refine wpAnyH_ready (rs := [31]) (by kernel_rfl) (by simp) ?_
      refine AllReadyH.cons rfl (fun K hK => ?_) AllReadyH.nil
      go_simp
      refine hK.out _ _ hS (fun hS => ?_)
      clear hK K
      refine wpAnyH_done (by kernel_rfl) ?_ _
      clear hS
      go_wp2
      go_ret
      exact ⟨rfl, FIN.out _⟩

end Go.Proofs.Ytgcbcdbfeaepkaa
