/- VfsPlays answers true. -/
import Derived.Test.YteokiaeojgjpdaaYm
namespace Go.Proofs.Yteokiaeojgjpdaa
open Go.RowKit Go.Maps Go.Sort

set_option maxHeartbeats 8000000 in
set_option maxRecDepth 100000 in
theorem vfsPlays_walk (room : Int) (hroom : room ≤ 9223372036854775807) (A0 : Option Addr) (N c0 : Nat) (os : List VOp) (name : ByteArray) (hname : name.size ≤ maxLen) (w : World) (ho : VOpsAt w A0 N os) (hN : N ≤ maxLen) :
    Calls Try.prog 6 #[.int .i64 room, .slice A0 N c0, .string name] w fun e w' => e = .returned (.bool true) ∧ Below w.heap.size w w' := by
  unfold maxLen at hN
  have HO := Lib.hid ho
  have hmr : posP room ≤ 9223372036854775807 := by unfold posP; omega
  clear ho
  go_enter Try.func6, Try.ntmps6
  go_wp2_with fail
  refine (new_disk room w).mono ?_
  rintro e w1 ⟨dp, X0, rfl, h1⟩
  have H1 := Lib.hid h1
  clear h1
  go_wp2_with fail
  refine (alive_any _).mono ?_
  rintro e w2 ⟨rfl, b2⟩
  have H2 := Lib.hid (H1.out.below b2)
  clear b2 H1
  go_wp2_with fail
  refine (vrnew_any room _).mono ?_
  rintro e w3 ⟨rfl, b3⟩
  have h3 := H2.out.below b3
  obtain ⟨most, hmo⟩ : ∃ most, most = posP room := ⟨_, rfl⟩
  rw [← hmo] at h3 hmr ⊢
  have hpl0 : Pl w dp w3.heap.size most 0 X0 ⟨[], most, 0, false⟩ none 0 0 [] 0 (w3.alloc (.cells #[.slice none 0 0, .int .i64 (most : Nat), .int .i64 0, .bool false] 53)) := by
    have h4 := h3.alloc (.cells #[.slice none 0 0, .int .i64 (most : Nat), .int .i64 0, .bool false] 53)
    refine ⟨h4, ⟨by simp [tot], by simp, Nat.le_refl _, by simp [tot], (fun t ht => nomatch ht)⟩, Blk.new w3 53 _, RefAt.nil _ _ _, rfl, fun _ => rfl, fun hx => ?_, h3.old.size⟩
    have := h3.disk.lt hx
    omega
  have HP0 := Lib.hid hpl0
  clear hpl0 h3 b3 H2 hmo
  go_wp2_with fail
  go_loopw [9, 30] (fun u i wr => ∃ (j U : Nat) (X : Nat → Prop) (s : Sta) (A : Option Addr) (n c : Nat) (fs : List FR) (fu : Int), j ≤ N ∧ U ≤ 20000 ∧ u = .int .i64 (U : Nat) ∧ i = .int .i64 (j : Nat) ∧ Pl w dp w3.heap.size most U X s A n c fs fu wr) (fun _ i _ => N - (intOf i).toNat)
  case atStart => exact ⟨0, 0, X0, _, none, 0, 0, [], 0, Nat.zero_le _, Nat.zero_le _, rfl, rfl, HP0.out⟩
  case round =>
    clear HP0
    obtain ⟨j, U, X, s, A, n, c, fs, fu, hj, hU, rfl, rfl, hpl⟩ := hrel
    have HPL := Lib.hid hpl
    have HOLD := Lib.hid hpl.db.old
    clear hpl
    by_cases hlt : j < N
    · have hlt' : (j : Int) < (N : Int) := by omega
      have hj0 : (0 : Int) ≤ (j : Int) := by omega
      obtain ⟨b, o, rfl, hbl, hc⟩ := HO.out.2.2 (by omega)
      obtain ⟨q, hq⟩ : ∃ q, os[j]? = some q := ⟨os[j]'(by have := HO.out.1; omega), List.getElem?_eq_getElem _⟩
      have hqm : q ∈ os := List.mem_of_getElem? hq
      obtain ⟨hqa, hqz, hqb, hqm2, hqk, hqkn, hqn⟩ := HO.out.2.1 q hqm
      obtain ⟨h0, h1, h2, h3, h4, h5⟩ := hc j q hq
      have y0 : wr.cell? ⟨b, o + j * 6, none⟩ = some (.int .i64 q.kind) := (HOLD.out.cell (p := ⟨b, o + j * 6, none⟩) hbl).trans h0
      have y1 : wr.cell? ⟨b, o + j * 6 + 1, none⟩ = some (.string q.a) := (HOLD.out.cell (p := ⟨b, o + j * 6 + 1, none⟩) hbl).trans h1
      have y2 : wr.cell? ⟨b, o + j * 6 + 2, none⟩ = some (.string q.z) := (HOLD.out.cell (p := ⟨b, o + j * 6 + 2, none⟩) hbl).trans h2
      have y3 : wr.cell? ⟨b, o + j * 6 + 3, none⟩ = some (.int .i64 q.num) := (HOLD.out.cell (p := ⟨b, o + j * 6 + 3, none⟩) hbl).trans h3
      have y4 : wr.cell? ⟨b, o + j * 6 + 4, none⟩ = some (.slice q.A q.m q.d) := (HOLD.out.cell (p := ⟨b, o + j * 6 + 4, none⟩) hbl).trans h4
      have y5 : wr.cell? ⟨b, o + j * 6 + 5, none⟩ = some (.slice q.K q.kn q.kc) := (HOLD.out.cell (p := ⟨b, o + j * 6 + 5, none⟩) hbl).trans h5
      have hal : Below wr.heap.size wr (wr.alloc (.cells #[.int .i64 q.kind, .string q.a, .string q.z, .int .i64 q.num, .slice q.A q.m q.d, .slice q.K q.kn q.kc] 57)) := (Below.refl _ wr).alloc (Nat.le_refl _) _
      have P5 := Lib.hid (HPL.out.below hal)
      have hsz5 : (wr.alloc (.cells #[.int .i64 q.kind, .string q.a, .string q.z, .int .i64 q.num, .slice q.A q.m q.d, .slice q.K q.kn q.kc] 57)).heap.size = wr.heap.size + 1 := by simp
      have K11 := Lib.hid (Blk.new wr 57 #[.int .i64 q.kind, .string q.a, .string q.z, .int .i64 q.num, .slice q.A q.m q.d, .slice q.K q.kn q.kc])
      have hXw := Lib.hid (fun x (hx : X x) => HPL.out.db.disk.lt hx)
      have hqbl := hqb.1
      have QB := Lib.hid hqb
      have QK := Lib.hid hqk
      clear h0 h1 h2 h3 h4 h5 hc hq hal hqb hqk hqm
      by_cases hbig : 20000 < U + (q.m + 8)
      · have hbig' : (20000 : Int) < (U : Int) + ((q.m : Int) + 8) := by omega
        have OLD := Lib.hid P5.out.db.old
        go_wp2
        go_ret
        exact ⟨rfl, OLD.out⟩
      · have hbig' : ¬ (20000 : Int) < (U : Int) + ((q.m : Int) + 8) := by omega
        have OK5 := Lib.hid (P5.out.pi.ok hmr (by omega) (by omega))
        have hlen := P5.out.pi.len
        have hn5 : n ≤ 100000 := by
          have e1 := P5.out.ref.1
          have e2 := congrArg List.length P5.out.view
          rw [List.length_map] at e2
          omega
        by_cases hk : 1 ≤ q.kind ∧ q.kind ≤ 6
        · have hk1 : (1 : Int) ≤ q.kind := hk.1
          have hk6 : q.kind ≤ 6 := hk.2
          have hdp := HPL.out.db.at_
          have CD := Lib.hid (does_all (d := q.d) P5.out.db.disk OK5.out q.kind hk1 hk6 q.a q.z hqa hqz q.num (QB.out.below (HOLD.out.trans ((Below.refl w.heap.size wr).alloc HOLD.out.size (.cells #[.int .i64 q.kind, .string q.a, .string q.z, .int .i64 q.num, .slice q.A q.m q.d, .slice q.K q.kn q.kc] 57)))) (by omega) (fun hm b' o' e => by
            obtain ⟨b2, o2, e2, hl2, _⟩ := QB.out.2 hm
            rw [e] at e2; injection e2 with e2; injection e2 with e2 _ _; omega) q.K q.kn q.kc)
          have hR := disk_rise P5.out.db.disk
          have PI6 := Lib.hid (P5.out.pi.op (a := q.a.data.toList) (z := q.z.data.toList) hR hqbl q.kind q.num)
          have HR := Lib.hid hR
          have CQ := Lib.hid (fun (W : World) (Y : Nat → Prop) (hr : RefAt W Y A n fs) (hY : Low W.heap.size Y) (hbB : BytesAt W q.A q.m q.bs) => do_all (c := c) hr hY hn5 s.V s.free s.fuse s.down P5.out.view HR.out (most : Int) fu P5.out.fz P5.out.pi.fuse q.kind hk1 hk6 q.a q.z hqa hqz q.num q.A q.m q.d q.bs hbB (by omega) (by rw [P5.out.pi.room]) (by rw [P5.out.pi.room]; exact hmr) (by have := P5.out.pi.tot_; omega))
          clear hR
          go_wp2_with fail
          refine CD.out.mono ?_
          rintro e w6 ⟨rfl, ha⟩
          obtain ⟨X', hdb6, hsub6, hk6'⟩ := P5.out.db.after ha
          have t6 : Blk w6 w3.heap.size 53 #[.slice A n c, .int .i64 (most : Nat), .int .i64 fu, .bool s.down] := (hk6'.block _ P5.out.top.lt P5.out.p8X).trans P5.out.top
          have k11 : Blk w6 wr.heap.size 57 #[.int .i64 q.kind, .string q.a, .string q.z, .int .i64 q.num, .slice q.A q.m q.d, .slice q.K q.kn q.kc] := (hk6'.block wr.heap.size (by rw [hsz5]; omega) (fun hx => by have := hXw.out _ hx; omega)).trans K11.out
          have r6 := P5.out.ref.keep (w' := w6) (fun b hb => hk6'.block b hb.2.1 hb.2.2.1) hk6'.size
          have s6 := hk6'.size
          have CQ6 := Lib.hid (CQ.out w6 _ r6 (fun b hb => Nat.lt_of_lt_of_le hb.2.1 s6) (QB.out.below hdb6.old))
          obtain ⟨c80, c81, c82, c83, -, -, -⟩ := blk4 t6
          have e0 : w6.cell? ⟨wr.heap.size, 0, none⟩ = some (.int .i64 q.kind) := k11.cell 0
          have e1 : w6.cell? ⟨wr.heap.size, 1, none⟩ = some (.string q.a) := k11.cell 1
          have e2 : w6.cell? ⟨wr.heap.size, 2, none⟩ = some (.string q.z) := k11.cell 2
          have e3 : w6.cell? ⟨wr.heap.size, 3, none⟩ = some (.int .i64 q.num) := k11.cell 3
          have e4 : w6.cell? ⟨wr.heap.size, 4, none⟩ = some (.slice q.A q.m q.d) := k11.cell 4
          have T6 := Lib.hid t6
          have DB6 := Lib.hid hdb6
          have SUB := Lib.hid hsub6
          have hp8X' : ¬ X' w3.heap.size := fun hx => by
            rcases hsub6 _ hx with h1 | h1
            · exact P5.out.p8X h1
            · have := P5.out.top.lt; omega
          clear ha t6 k11 r6 hk6' hdb6 hsub6 CQ CD y0 y1 y2 y3 y4 y5
          go_wp2_with fail
          refine CQ6.out.mono ?_
          rintro e w7 ⟨A', n', c', fs', fu', rfl, hr7, hv7, hf7, hb7⟩
          have t7 := T6.out.below hb7 T6.out.lt
          obtain ⟨d80, d81, d82, d83, g1, g2, g3⟩ := blk4 t7
          have g0 := t7.frozen 0
          have hb7s := hb7.size
          have OKn := Lib.hid ((PI6.out.more (k' := U + (q.m + 8)) (T' := U + (q.m + 8)) (by omega) (by omega)).ok hmr (by omega) (by omega))
          have PL8 := Lib.hid (Pl.turn (c := c') (most := most) (U := U + (q.m + 8)) (DB6.out.below hb7) (PI6.out.more (by omega) (by omega)) t7 rfl hr7 (fun b hb => ⟨hb.1, Nat.lt_of_lt_of_le hb.2.1 (Nat.le_trans s6 hb7s), fun hx => by
            rcases SUB.out b hx with h1 | h1
            · exact hb.2.2.1 h1
            · have := hb.2.1; omega, hb.2.2.2⟩) (fun b hb hx => by have := DB6.out.disk.lt hx; omega) T6.out.lt DB6.out.old.size hv7 hf7 hp8X' P5.out.p8w)
          have SM := Lib.hid (same_all (c := c') PL8.out.db.disk OKn.out PL8.out.ref (fun b hb => hb.2.1) PL8.out.view ((most : Nat) : Int) fu' (by rw [(PL8.out.pi).room]))
          clear hr7 hv7 hf7 hb7 t7 CQ6 c80 c81 c82 c83 e0 e1 e2 e3 e4
          generalize (opS q.kind q.a.data.toList q.z.data.toList q.num q.bs s) = rs at *
          obtain ⟨cd, s'⟩ := rs
          go_wp2_with fail
          refine SM.out.mono ?_
          rintro e w9 ⟨rfl, hb9⟩
          have PL9 := Lib.hid (PL8.out.below hb9)
          clear hb9 SM
          go_wp2
          go_roundw
          case rel => exact ⟨j + 1, _, X', s', A', n', c', fs', fu', by omega, by omega, by go_num, by go_num, PL9.out⟩
          case measure => simp [intOf]; omega
        · have nk : ¬ (1 ≤ q.kind ∧ q.kind ≤ 6) := hk
          have F5 := Lib.hid (show Pl w dp w3.heap.size most (U + (q.m + 8)) X s A n c fs fu (wr.alloc (.cells #[.int .i64 q.kind, .string q.a, .string q.z, .int .i64 q.num, .slice q.A q.m q.d, .slice q.K q.kn q.kc] 57)) from ⟨P5.out.db, P5.out.pi.more (by omega) (by omega), P5.out.top, P5.out.ref, P5.out.view, P5.out.fz, P5.out.p8X, P5.out.p8w⟩)
          by_cases k7 : q.kind = 7
          · have CF := Lib.hid (P5.out.db.disk.fail q.num)
            have hmx : max q.num 0 = ((posP q.num : Nat) : Int) := by unfold posP; omega
            rw [k7] at y0 K11 CF F5 P5 hsz5
            clear hk nk k7
            go_wp2_with fail
            refine CF.out.mono ?_
            rintro e w6 ⟨rfl, ha⟩
            obtain ⟨X', hdb6, hsub6, hk6'⟩ := P5.out.db.after ha
            have t6 : Blk w6 w3.heap.size 53 #[.slice A n c, .int .i64 (most : Nat), .int .i64 fu, .bool s.down] := (hk6'.block _ P5.out.top.lt P5.out.p8X).trans P5.out.top
            have k11 : Blk w6 wr.heap.size 57 #[.int .i64 7, .string q.a, .string q.z, .int .i64 q.num, .slice q.A q.m q.d, .slice q.K q.kn q.kc] := (hk6'.block wr.heap.size (by rw [hsz5]; omega) (fun hx => by have := hXw.out _ hx; omega)).trans K11.out
            have r6 := P5.out.ref.keep (w' := w6) (fun b hb => hk6'.block b hb.2.1 hb.2.2.1) hk6'.size
            have s6 := hk6'.size
            obtain ⟨c80, c81, c82, c83, g1, g2, g3⟩ := blk4 t6
            have g0 := t6.frozen 0
            have e3 : w6.cell? ⟨wr.heap.size, 3, none⟩ = some (.int .i64 q.num) := k11.cell 3
            have e5 : w6.cell? ⟨wr.heap.size, 5, none⟩ = some (.slice q.K q.kn q.kc) := k11.cell 5
            have e0 : w6.cell? ⟨wr.heap.size, 0, none⟩ = some (.int .i64 7) := k11.cell 0
            have hp8X' : ¬ X' w3.heap.size := fun hx => by
              rcases hsub6 _ hx with h1 | h1
              · exact P5.out.p8X h1
              · have := P5.out.top.lt; omega
            have T6 := Lib.hid t6
            have DB6 := Lib.hid hdb6
            have SUB := Lib.hid hsub6
            have PIn := Lib.hid ((P5.out.pi.fail q.num hqn).more (k' := U + (q.m + 8)) (T' := U + (q.m + 8)) (by omega) (by omega))
            have PL8 := Lib.hid (Pl.one (fu := ((posP q.num : Nat) : Int)) DB6.out PIn.out T6.out r6 (fun b hb => ⟨hb.1, Nat.lt_of_lt_of_le hb.2.1 s6, fun hx => by
              rcases SUB.out b hx with h1 | h1
              · exact hb.2.2.1 h1
              · have := hb.2.1; omega, hb.2.2.2⟩) P5.out.view (fun _ => rfl) hp8X' P5.out.p8w)
            have SM := Lib.hid (same_all (c := c) PL8.out.db.disk (PIn.out.ok hmr (by omega) (by omega)) PL8.out.ref (fun b hb => hb.2.1) PL8.out.view ((most : Nat) : Int) ((posP q.num : Nat) : Int) (by rw [PL8.out.pi.room]))
            simp only at SM
            clear ha t6 k11 r6 hk6' hdb6 hsub6 y0 y1 y2 y3 y4 y5 CF
            go_wp2_with fail
            refine SM.out.mono ?_
            rintro e w9 ⟨rfl, hb9⟩
            have PL9 := Lib.hid (PL8.out.below hb9)
            clear hb9 SM
            go_wp2
            go_roundw
            case rel => exact ⟨j + 1, _, X', _, A, n, c, fs, _, by omega, by omega, by go_num, by go_num, PL9.out⟩
            case measure => simp [intOf]; omega
          · by_cases k8 : q.kind = 8
            · have CF := Lib.hid (P5.out.db.disk.crash OK5.out q.K q.kn q.kc q.ks (QK.out.up' (HOLD.out.trans ((Below.refl w.heap.size wr).alloc HOLD.out.size (.cells #[.int .i64 q.kind, .string q.a, .string q.z, .int .i64 q.num, .slice q.A q.m q.d, .slice q.K q.kn q.kc] 57)))) (by unfold maxLen at hqkn; omega) (fun hn b' o' e hx => by
                obtain ⟨b2, o2, e2, h1, _⟩ := QK.out.2 hn
                rw [e] at e2; injection e2 with e2; injection e2 with e2 _ _
                have h2 := P5.out.db.own b' hx; omega))
              rw [k8] at y0 K11 CF F5 P5 hsz5
              clear hk nk k7 k8
              go_wp2_with fail
              refine CF.out.mono ?_
              rintro e w6 ⟨rfl, ha⟩
              obtain ⟨X', hdb6, hsub6, hk6'⟩ := P5.out.db.after ha
              have t6 : Blk w6 w3.heap.size 53 #[.slice A n c, .int .i64 (most : Nat), .int .i64 fu, .bool s.down] := (hk6'.block _ P5.out.top.lt P5.out.p8X).trans P5.out.top
              have k11 : Blk w6 wr.heap.size 57 #[.int .i64 8, .string q.a, .string q.z, .int .i64 q.num, .slice q.A q.m q.d, .slice q.K q.kn q.kc] := (hk6'.block wr.heap.size (by rw [hsz5]; omega) (fun hx => by have := hXw.out _ hx; omega)).trans K11.out
              have r6 := P5.out.ref.keep (w' := w6) (fun b hb => hk6'.block b hb.2.1 hb.2.2.1) hk6'.size
              have s6 := hk6'.size
              obtain ⟨c80, c81, c82, c83, g1, g2, g3⟩ := blk4 t6
              have g0 := t6.frozen 0
              have e3 : w6.cell? ⟨wr.heap.size, 3, none⟩ = some (.int .i64 q.num) := k11.cell 3
              have e5 : w6.cell? ⟨wr.heap.size, 5, none⟩ = some (.slice q.K q.kn q.kc) := k11.cell 5
              have e0 : w6.cell? ⟨wr.heap.size, 0, none⟩ = some (.int .i64 8) := k11.cell 0
              have hp8X' : ¬ X' w3.heap.size := fun hx => by
                rcases hsub6 _ hx with h1 | h1
                · exact P5.out.p8X h1
                · have := P5.out.top.lt; omega
              have T6 := Lib.hid t6
              have DB6 := Lib.hid hdb6
              have SUB := Lib.hid hsub6
              have PIn := Lib.hid ((P5.out.pi.crash q.ks).more (k' := U + (q.m + 8)) (T' := U + (q.m + 8)) (by omega) (by omega))
              have CQ6 := Lib.hid (rcrash_any (c := c) (kc := q.kc) r6 (fun b hb => Nat.lt_of_lt_of_le hb.2.1 s6) (by omega) (fun f hf => by
                have h1 := tot_mem (V := s.V) (t := f.t) (by rw [← P5.out.view]; exact List.mem_map.2 ⟨f, hf, rfl⟩)
                have h2 := OK5.out.bytes
                have h3 : f.t.2.1.length = f.bs.length := rfl
                omega) (most : Int) fu s.down (QK.out.up' DB6.out.old) hqkn)
              clear ha t6 k11 r6 hk6' hdb6 hsub6 y0 y1 y2 y3 y4 y5 CF g0 g1 g2 g3
              go_wp2_with fail
              refine CQ6.out.mono ?_
              rintro e w7 ⟨A', n', c', fs', rfl, hr7, hv7, hb7⟩
              have t7 := T6.out.below hb7 T6.out.lt
              obtain ⟨d80, d81, d82, d83, g1, g2, g3⟩ := blk4 t7
              have g0 := t7.frozen 0
              have hb7s := hb7.size
              have PL8 := Lib.hid (Pl.turn (c := c') (fu := 0) (most := most) (U := U + (q.m + 8)) (s := crashS q.ks s) (DB6.out.below hb7) PIn.out t7 rfl hr7 (fun b hb => ⟨hb.1, Nat.lt_of_lt_of_le hb.2.1 (Nat.le_trans s6 hb7s), fun hx => by
                rcases SUB.out b hx with h1 | h1
                · exact hb.2.2.1 h1
                · have := hb.2.1; omega, hb.2.2.2⟩) (fun b hb hx => by have := DB6.out.disk.lt hx; omega) T6.out.lt DB6.out.old.size (by rw [hv7, P5.out.view]; rfl) (fun _ => rfl) hp8X' P5.out.p8w)
              have SM := Lib.hid (same_all (c := c') PL8.out.db.disk (PIn.out.ok hmr (by omega) (by omega)) PL8.out.ref (fun b hb => hb.2.1) PL8.out.view ((most : Nat) : Int) 0 (by rw [PL8.out.pi.room]))
              have SM := Lib.hid (show Calls Try.prog 30 #[.pointer (some ⟨dp, 0, none⟩), .agg #[.slice A' n' c', .int .i64 (most : Nat), .int .i64 0, .bool false]] ((((w7.setCell ⟨w3.heap.size, 0, none⟩ (.slice A' n' c')).setCell ⟨w3.heap.size, 1, none⟩ (.int .i64 (most : Nat))).setCell ⟨w3.heap.size, 2, none⟩ (.int .i64 0)).setCell ⟨w3.heap.size, 3, none⟩ (.bool false)) _ from SM.out)
              clear hr7 hv7 hb7 t7 CQ6 c80 c81 c82 c83 e0 e3 e5
              go_wp2_with fail
              refine SM.out.mono ?_
              rintro e w9 ⟨rfl, hb9⟩
              have PL9 := Lib.hid (PL8.out.below hb9)
              clear hb9 SM
              go_wp2
              go_roundw
              case rel => exact ⟨j + 1, _, X', _, A', n', c', fs', 0, by omega, by omega, by go_num, by go_num, PL9.out⟩
              case measure => simp [intOf]; omega
            · have SM := Lib.hid (same_all (c := c) F5.out.db.disk OK5.out F5.out.ref (fun b hb => hb.2.1) F5.out.view ((most : Nat) : Int) fu (by rw [F5.out.pi.room]))
              have PL8 := F5
              have t5 := F5.out.top
              obtain ⟨c80, c81, c82, c83, -, -, -⟩ := blk4 t5
              have b7 : (q.kind == 7) = false := by simpa using k7
              have b8 : (q.kind == 8) = false := by simpa using k8
              clear t5
              rcases (by omega : ¬ (1 : Int) ≤ q.kind ∨ ((1 : Int) ≤ q.kind ∧ ¬ q.kind ≤ 6)) with m1 | ⟨m1, m2⟩
              all_goals
                clear nk hk
                go_wp2_with fail
                refine SM.out.mono ?_
                rintro e w9 ⟨rfl, hb9⟩
                have PL9 := Lib.hid (PL8.out.below hb9)
                clear hb9 SM
                go_wp2
                go_roundw
                case rel => exact ⟨j + 1, _, X, s, A, n, c, fs, fu, by omega, by omega, by go_num, by go_num, PL9.out⟩
                case measure => simp [intOf]; omega
    · have hlt' : ¬ (j : Int) < (N : Int) := by omega
      have OKs := Lib.hid (HPL.out.pi.ok hmr (by omega) (by omega))
      have CR := Lib.hid (HPL.out.db.disk.read OKs.out name hname)
      have hn5 : n ≤ 100000 := by
        have e1 := HPL.out.ref.1
        have e2 := congrArg List.length HPL.out.view
        have e3 := HPL.out.pi.len
        rw [List.length_map] at e2
        omega
      have hR := disk_rise HPL.out.db.disk
      have CQ := Lib.hid (fun (W : World) (hW : Below wr.heap.size wr W) => rread_any (c := c) (HPL.out.below hW).ref (fun b hb => hb.2.1) (by unfold maxLen; omega) HPL.out.view hR s.free s.fuse s.down (most : Int) fu name)
      obtain ⟨r, hr⟩ : ∃ r, r = readS name.data.toList s := ⟨_, rfl⟩
      have hrl : r.2.length ≤ 500000000 := by
        rw [hr]; unfold readS
        split
        · exact Nat.zero_le _
        · split
          · exact Nat.zero_le _
          · rename_i t ht
            exact Nat.le_trans (tot_mem (vlook_mem ht).1) OKs.out.bytes
      have CQ := Lib.hid (show ∀ (W : World) (hW : Below wr.heap.size wr W), Calls Try.prog 32 #[.agg #[.slice A n c, .int .i64 (most : Nat), .int .i64 fu, .bool s.down], .string name] W (RReadP W r) from fun W hW => by rw [hr]; exact CQ.out W hW)
      rw [← hr] at CR
      have TOP := Lib.hid HPL.out.top
      clear hr hR
      go_wp2_with fail
      refine CR.out.mono ?_
      rintro e w5 ⟨v5, rfl, hr5, b5⟩
      obtain ⟨A5, c5, ev, hy5, _⟩ := row_bytes hr5
      subst ev
      have HY5 := Lib.hid hy5
      have B5 := Lib.hid b5
      obtain ⟨c80, c81, c82, c83, -, -, -⟩ := blk4 (TOP.out.below b5 TOP.out.lt)
      clear hr5 hy5 b5 CR
      obtain ⟨rc, rb⟩ := r
      simp only at hrl HY5 ⊢
      go_wp2_with fail
      refine (CQ.out _ B5.out).mono ?_
      rintro e w6 ⟨A6, c6, rfl, hy6, b6⟩
      have OLD6 := Lib.hid ((HOLD.out.trans (B5.out.mono HOLD.out.size)).trans (b6.mono (Nat.le_trans HOLD.out.size B5.out.size)))
      simp only at hy6 ⊢
      have SB := Lib.hid (sameb_yes (c := c5) (d := c6) (HY5.out.below b6) hy6 (by unfold maxLen; omega))
      clear hy6 b6 CQ c80 c81 c82 c83
      generalize rb.length = rl at *
      go_wp2_with fail
      refine SB.out.mono ?_
      rintro e w7 ⟨rfl, b7⟩
      have OLD7 := Lib.hid (OLD6.out.trans (b7.mono OLD6.out.size))
      clear b7 SB
      go_wp2
      go_ret
      exact ⟨rfl, OLD7.out⟩
end Go.Proofs.Yteokiaeojgjpdaa
