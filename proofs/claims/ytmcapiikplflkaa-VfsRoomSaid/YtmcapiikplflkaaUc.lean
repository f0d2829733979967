/- VfsRoom answers true. -/
import Derived.Test.YtmcapiikplflkaaUb
namespace Go.Proofs.Ytmcapiikplflkaa
open Go.RowKit Go.Maps Go.Sort

/-- A row of texts of a call's own. -/
theorem strs_row {w : World} {B : Nat} {v : Value} {ns : List (List UInt8)} (h : w.ownsRow B 9 1 v ns.length (ns.map encStr)) : ∃ A c, v = .slice A ns.length c ∧ c ≤ maxLen ∧ (0 < ns.length → ∃ b, A = some ⟨b, 0, none⟩ ∧ b < w.heap.size ∧ ∀ i nm, ns[i]? = some nm → w.cell? ⟨b, 0 + i, none⟩ = some (encStr nm)) := by
  rcases h.2 with ⟨e, h0⟩ | ⟨g, cap, cur, e, hB, hg, _, hm, h3, h4⟩
  · refine ⟨none, 0, by rw [h0]; exact e, Nat.zero_le _, fun hn => by omega⟩
  · refine ⟨_, cap, e, hm, fun _ => ⟨g, rfl, (Array.getElem?_eq_some_iff.1 hg).1, fun i nm hi => ?_⟩⟩
    rw [cell_of_row w g (0 + i) cur 9 (0, 0) hg]
    have h5 : (cur.toList.take (ns.length * 1))[i]? = some (encStr nm) := by rw [h4, List.getElem?_map, hi]; rfl
    have hl := (List.getElem?_eq_some_iff.1 hi).1
    rw [List.getElem?_take_of_lt (by omega)] at h5
    rw [Nat.zero_add, ← Array.getElem?_toList]
    exact h5
theorem enc_str (nm : List UInt8) : encStr nm = .string ⟨nm.toArray⟩ := rfl
theorem vlook_at {V : FV} (hR : RiseV V) {i : Nat} {t : List UInt8 × List UInt8 × Nat} (h : V[i]? = some t) : vlook t.1 V = some t := by
  induction V generalizing i with
  | nil => simp at h
  | cons y r ih =>
    have hr2 := List.pairwise_cons.1 hR
    unfold vlook
    rw [List.find?_cons]
    cases i with
    | zero =>
      obtain rfl : y = t := by simpa using h
      have : (y.1 == y.1) = true := by simp
      rw [this]
    | succ i =>
      have h2 : r[i]? = some t := by simpa using h
      have hne : (y.1 == t.1) = false := by simpa using before_ne (hr2.1 t (List.mem_of_getElem? h2))
      rw [hne]
      exact ih hr2.2 h2
theorem tot_take {V : FV} {i : Nat} {t : List UInt8 × List UInt8 × Nat} (h : V[i]? = some t) : tot (V.take (i + 1)) = tot (V.take i) + t.2.1.length := by
  rw [(take_succ_at h).1, tot_app, tot_cons]; rfl
theorem tot_take_le (V : FV) (i : Nat) : tot (V.take i) ≤ tot V := by
  have := tot_app (V.take i) (V.drop i)
  rw [List.take_append_drop] at this
  omega
def RInv (w : World) (dp n r : Nat) (i : Value) (V : World) : Prop := ∃ (j : Nat) (s : Sta) (X : Nat → Prop), j ≤ n ∧ i = .int .i64 (j : Nat) ∧ DB w V dp X s ∧ Inv r (min j 100) s
def NInv (V3 : World) (s : Sta) (t i : Value) (V : World) : Prop := ∃ k : Nat, k ≤ s.V.length ∧ i = .int .i64 (k : Nat) ∧ t = .int .i64 (tot (s.V.take k) : Nat) ∧ Below V3.heap.size V3 V
set_option maxHeartbeats 8000000 in
set_option maxRecDepth 100000 in
theorem vfsRoom_walk (room : Int) (A : Option Addr) (n c : Nat) (os : List VOp) (w : World) (hO : VOpsAt w A n os) (hn : n ≤ maxLen) :
    Calls Try.prog 4 #[.int .i64 room, .slice A n c] w fun e w' => e = .returned (.bool true) ∧ Below w.heap.size w w' := by
  have hmixed : Try.prog.follows .mixedOrders = true := by kernel_rfl
  have hs1 := and_le room 255 255 rfl (by decide)
  obtain ⟨r, hrI⟩ : ∃ r : Nat, bits BinOp.and IntKind.i64 room 255 = (r : Int) := ⟨(bits BinOp.and IntKind.i64 room 255).toNat, by omega⟩
  have hr255 : r ≤ 255 := by omega
  have HO := Lib.hid hO
  unfold maxLen at hn
  clear hO hs1
  go_enter Try.func4, Try.ntmps4
  go_wp2_with fail
  refine (new_disk (r : Int) _).mono ?_
  rintro e w1 ⟨dp, X1, rfl, h1⟩
  rw [show posP (r : Int) = r by unfold posP; omega] at h1
  go_wp2_with fail
  refine (alive_any _).mono ?_
  rintro e w2 ⟨rfl, b2⟩
  have h2 := h1.below b2
  have HI := Lib.hid (show RInv w dp n r (.int .i64 0) w2 from ⟨0, _, _, Nat.zero_le _, rfl, h2, ⟨by simp [tot], rfl, rfl, Nat.zero_le _, fun t ht => by cases ht⟩⟩)
  clear h1 b2 h2
  go_wp2_with fail
  go_loopw [27] (fun i wr => RInv w dp n r i wr) (fun i _ => n - (intOf i).toNat)
  case atStart => exact HI.out
  case round =>
    clear HI
    obtain ⟨j, s, X, hj, rfl, h, hI⟩ := hrel
    by_cases hlt : j < n
    · have hlt' : (j : Int) < (n : Int) := by omega
      obtain ⟨pb, po, rfl, hpb, hpc⟩ := HO.out.2.2 (by omega)
      obtain ⟨p, hpj⟩ : ∃ p, os[j]? = some p := ⟨os[j]'(by have := HO.out.1; omega), List.getElem?_eq_getElem _⟩
      obtain ⟨hpa, hpz, hpB, hpm, hpK, hpk⟩ := HO.out.2.1 p (List.mem_of_getElem? hpj)
      obtain ⟨y0, y1, y2, y3, y4, y5⟩ := hpc j p hpj
      rw [← h.old.cell (p := ⟨pb, po + j * 6, none⟩) hpb] at y0
      rw [← h.old.cell (p := ⟨pb, po + j * 6 + 1, none⟩) hpb] at y1
      rw [← h.old.cell (p := ⟨pb, po + j * 6 + 2, none⟩) hpb] at y2
      rw [← h.old.cell (p := ⟨pb, po + j * 6 + 3, none⟩) hpb] at y3
      rw [← h.old.cell (p := ⟨pb, po + j * 6 + 4, none⟩) hpb] at y4
      rw [← h.old.cell (p := ⟨pb, po + j * 6 + 5, none⟩) hpb] at y5
      clear hpc hpj
      obtain ⟨kd, na, nz, num, pA, pm, pd, bs, pK, kn, kc, ks⟩ := p
      simp only at hpa hpz hpB hpm hpK hpk y0 y1 y2 y3 y4 y5
      have hXo : ¬ X wr.heap.size := fun hx => by have := h.disk.lt hx; omega
      have h1 := h.alloc (.cells #[.int .i64 kd, .string na, .string nz, .int .i64 num, .slice pA pm pd, .slice pK kn kc] 33)
      by_cases hskip : 100 ≤ j ∨ 1000 < pm
      · have HS := Lib.hid (show RInv w dp n r (.int .i64 ((j : Int) + 1)) (wr.alloc (.cells #[.int .i64 kd, .string na, .string nz, .int .i64 num, .slice pA pm pd, .slice pK kn kc] 33)) from
          ⟨j + 1, s, X, by omega, by rw [show ((j : Int) + 1) = ((j + 1 : Nat) : Int) by omega], h1, ⟨hI.room, hI.fuse, hI.down, by have := hI.len; omega, hI.names⟩⟩)
        clear h h1 hI hpB hpK
        rcases Nat.lt_or_ge j 100 with h100 | h100
        · have h100' : ¬ (100 : Int) ≤ (j : Int) := by omega
          have h1000 : (1000 : Int) < (pm : Int) := by omega
          go_wp2_with fail
          go_roundw
          case rel => exact HS.out
          case measure => simp [intOf]; omega
        · have h100' : (100 : Int) ≤ (j : Int) := by omega
          go_wp2_with fail
          go_roundw
          case rel => exact HS.out
          case measure => simp [intOf]; omega
      · have h100' : ¬ (100 : Int) ≤ (j : Int) := by omega
        have h1000 : ¬ (1000 : Int) < (pm : Int) := by omega
        have hpm2 : pm ≤ 1000 := by omega
        have hj100 : min j 100 = j := by omega
        rw [hj100] at hI
        have hjl : j < 100 := by omega
        have CR := h1.disk.room
        obtain ⟨f1, hf1⟩ : ∃ f1, f1 = s.free := ⟨_, rfl⟩
        rw [← hf1] at CR
        have hfr : f1 ≤ 255 := by have := hI.room; omega
        have CR := Lib.hid CR
        have HF1 := Lib.hid hf1
        have H1 := Lib.hid h1
        have HI1 := Lib.hid hI
        have OB1 := Lib.hid (Blk.new wr 33 #[.int .i64 kd, .string na, .string nz, .int .i64 num, .slice pA pm pd, .slice pK kn kc])
        have HOLD := Lib.hid h.old
        have HPB := Lib.hid hpB
        have HPK := Lib.hid hpK
        clear h h1 hI hskip hf1 hpB hpK hj100
        by_cases hk6 : 1 ≤ kd ∧ kd ≤ 6
        · obtain ⟨kk, rfl⟩ : ∃ kk : Nat, kd = (kk : Int) := ⟨kd.toNat, by omega⟩
          have k1 : (1 : Int) ≤ (kk : Int) := hk6.1
          have k6 : (kk : Int) ≤ 6 := hk6.2
          have k1b : decide ((1 : Int) ≤ (kk : Int)) = true := decide_eq_true k1
          have k6b : decide ((kk : Int) ≤ 6) = true := decide_eq_true k6
          have C := Lib.hid (does_any H1.out.disk HI1.out (by omega) (by omega) kk (by omega) (by omega) na nz hpa hpz num (d := pd) ((HPB.out.up (fun b hb => HOLD.out.block b hb) HOLD.out.size).below ((Below.refl _ wr).alloc (Nat.le_refl _) _)) hpm2 (fun h0 b o e => by
            obtain ⟨b', o', e', hlt2, _⟩ := HPB.out.2 h0
            rw [e] at e'; injection e' with e'; injection e' with e' _ _
            have := H1.out.at_; have := HOLD.out.size; omega) pK kn kc)
          clear hk6
          go_wp2_with fail
          ((with_reducible refine CR.out.mono ?_))
          rintro e V1 ⟨rfl, rfl⟩
          go_wp2_with fail
          ((with_reducible refine C.out.mono ?_))
          rintro e V2 ⟨cd, s2, rfl, ha, hd⟩
          obtain ⟨X2, h2, hs2, hk2⟩ := H1.out.after ha
          have hob : Blk V2 wr.heap.size 33 _ := (hk2.block _ OB1.out.lt hXo).trans OB1.out
          have HB2 := Lib.hid h2
          have HI2 := Lib.hid hd.inv
          have HAPP := Lib.hid hd.app
          have HFULL := Lib.hid hd.full
          have HOB := Lib.hid hob
          clear C CR ha hd h2 hs2 hk2 hob
          have CN := HB2.out.disk.names (HI2.out.ok (by omega) (by omega))
          have CN := Lib.hid CN
          go_wp2_with fail
          ((with_reducible refine CN.out.mono ?_))
          rintro e V3 ⟨v, rfl, hrow, b3⟩
          have hln : (s2.V.map fun t => t.1).length = s2.V.length := List.length_map _
          obtain ⟨An, cn, ev, hcn, hcells⟩ := strs_row hrow
          subst ev
          rw [hln] at hcells ⊢
          have hVl := HI2.out.len
          obtain ⟨L, hL⟩ : ∃ L, L = s2.V.length := ⟨_, rfl⟩
          rw [← hL] at hcells hVl ⊢
          have h3 := HB2.out.below b3
          have HL := Lib.hid hL
          have HC := Lib.hid hcells
          have H3 := Lib.hid h3
          have HOB3 := Lib.hid (HOB.out.below b3 HOB.out.lt)
          have HR := Lib.hid (disk_rise h3.disk)
          have HN0 := Lib.hid (show NInv V3 s2 (.int .i64 0) (.int .i64 0) V3 from ⟨0, Nat.zero_le _, rfl, by simp [tot], Below.refl _ _⟩)
          clear hrow b3 hln hcells h3 hL CN
          go_wp2_with fail
          go_loopw [10, 63] (fun t i wr => NInv V3 s2 t i wr) (fun _ i _ => L - (intOf i).toNat)
          case atStart => exact HN0.out
          case round =>
            clear HN0
            obtain ⟨i, hi, rfl, rfl, hbl⟩ := hrel
            rw [← HL.out] at hi
            by_cases hlt2 : i < L
            · have hlt2' : (i : Int) < (L : Int) := by omega
              obtain ⟨nb, hAn, hnb, hnc⟩ := HC.out (by omega)
              subst hAn
              obtain ⟨t, ht⟩ : ∃ t, s2.V[i]? = some t := ⟨s2.V[i]'(by have := HL.out; omega), List.getElem?_eq_getElem _⟩
              have y9 : wr.cell? ⟨nb, i, none⟩ = some (.string ⟨t.1.toArray⟩) := by
                have := hnc i t.1 (by rw [List.getElem?_map, ht]; rfl)
                rw [Nat.zero_add, enc_str] at this
                rw [hbl.cell (p := ⟨nb, i, none⟩) hnb]; exact this
              have hnm := HI2.out.names t (List.mem_of_getElem? ht)
              have h4 := H3.out.below hbl
              have CD := h4.disk.read (HI2.out.ok (by omega) (by omega)) ⟨t.1.toArray⟩ (by show t.1.toArray.size ≤ maxLen; rw [List.size_toArray]; unfold maxLen; omega)
              have hrd : readS (⟨t.1.toArray⟩ : ByteArray).data.toList s2 = (0, t.2.1) := by
                unfold readS
                rw [HI2.out.down, if_neg (by decide), show (⟨t.1.toArray⟩ : ByteArray).data.toList = t.1 from rfl, vlook_at HR.out ht]
              rw [hrd] at CD
              have CD := Lib.hid CD
              have htt := tot_take ht
              have htl := tot_take_le s2.V i
              have htl2 := tot_take_le s2.V (i + 1)
              have hrm := HI2.out.room
              obtain ⟨T0, hT0⟩ : ∃ T0, T0 = tot (s2.V.take i) := ⟨_, rfl⟩
              obtain ⟨q, hq⟩ : ∃ q, q = t.2.1.length := ⟨_, rfl⟩
              rw [← hT0, ← hq] at htt
              rw [← hT0] at htl ⊢
              have hT0b : T0 ≤ 255 := by omega
              have hqb : T0 + q ≤ 255 := by omega
              have HTT := Lib.hid htt
              have HBL := Lib.hid hbl
              have HQ := Lib.hid hq
              clear hnc ht h4 hrd htt htl htl2 hrm hT0 hbl hq
              go_wp2_with fail
              ((with_reducible refine CD.out.mono ?_))
              rintro e V5 ⟨v5, rfl, hrow5, b5⟩
              obtain ⟨A5, c5, ev5, -, -⟩ := row_shape (row_base hrow5 (Nat.zero_le _))
              have ev5 : v5 = .slice A5 q c5 := ev5.trans (by rw [HQ.out])
              subst ev5
              have HN := Lib.hid (show NInv V3 s2 (.int .i64 ((T0 : Int) + (q : Int))) (.int .i64 ((i : Int) + 1)) V5 from ⟨i + 1, by rw [← HL.out]; omega, by rw [show ((i : Int) + 1) = ((i + 1 : Nat) : Int) by omega], by rw [HTT.out, show ((T0 : Int) + (q : Int)) = ((T0 + q : Nat) : Int) by omega], HBL.out.trans (b5.mono HBL.out.size)⟩)
              clear hrow5 b5 CD
              go_wp2_with fail
              go_roundw
              case rel => exact HN.out
              case measure => simp [intOf]; omega
            · have hlt2' : ¬ (i : Int) < (L : Int) := by omega
              have hiL : s2.V.take i = s2.V := List.take_of_length_le (by rw [← HL.out]; omega)
              rw [hiL]
              obtain ⟨T, hT⟩ : ∃ T, T = tot s2.V := ⟨_, rfl⟩
              obtain ⟨f2, hf2⟩ : ∃ f2, f2 = s2.free := ⟨_, rfl⟩
              have hrm := HI2.out.room
              rw [← hT, ← hf2] at hrm
              rw [← hT]
              have h4 := H3.out.below hbl
              have CR2 := fun (k : Nat) => (h4.below (w' := wr.drewN k) ⟨rfl, rfl, rfl, Nat.le_refl _, fun _ _ => rfl⟩).disk.room
              rw [← hf2] at CR2
              have CR2 := Lib.hid (fun (k : Nat) => (CR2 k).mono (fun _ _ h => show _ ∧ _ from ⟨h.1, h.2.symm⟩))
              have hob4 : Blk wr _ 33 _ := HOB3.out.below hbl HOB3.out.lt
              have z0 : wr.cell? ⟨_, 0, none⟩ = some (.int .i64 (kk : Nat)) := hob4.cell 0
              have z4 : wr.cell? ⟨_, 4, none⟩ = some (.slice pA pm pd) := hob4.cell 4
              have g1 : IntKind.i64.wrap ((r : Int) - (T : Int)) = (f2 : Int) := by rw [IntWalk.i64_in _ (by omega)]; omega
              have g2 : decide ((f2 : Int) < 0) = false := decide_eq_false (by omega)
              have HS := Lib.hid (fun (k : Nat) => show RInv w dp n r (.int .i64 ((j : Int) + 1)) (wr.drewN k) from
                ⟨j + 1, s2, X2, by omega, by rw [show ((j : Int) + 1) = ((j + 1 : Nat) : Int) by omega], h4.below ⟨rfl, rfl, rfl, Nat.le_refl _, fun _ _ => rfl⟩, by rw [show min (j + 1) 100 = j + 1 by omega]; exact HI2.out⟩)
              have HF2 := Lib.hid hf2
              clear hiL hT hf2 hrm h4 hob4 hbl
              by_cases e2 : kk = 2
              · subst e2
                by_cases c0 : cd = 0
                · subst c0
                  have hap := HAPP.out rfl rfl
                  have g3 : IntKind.i64.wrap ((f1 : Int) - (pm : Int)) = (f2 : Int) := by
                    have := HF1.out; have := HF2.out
                    rw [IntWalk.i64_in _ (by omega)]; omega
                  clear hap
                  go_wp2_with fail
                  go_quiet ((go_at_call 24; exact Calls.quiet_of_same (CR2.out _)))
                  go_wp2_with fail
                  go_roundw
                  case rel => exact HS.out _
                  case measure => simp [intOf]; omega
                · have c0b : (cd == 0) = false := by rw [beq_eq_false_iff_ne]; exact c0
                  by_cases c71 : cd = 71
                  · subst c71
                    have hfu := HFULL.out rfl
                    have g4 : ((f2 : Int) != (f1 : Int)) = false := by
                      have := HF1.out; have := HF2.out
                      have e : (f2 : Int) = (f1 : Int) := by omega
                      rw [e]; simp
                    have g5 : decide (pm ≤ f1) = false := decide_eq_false (by have := HF1.out; omega)
                    have g5c : decide ((pm : Int) ≤ (f1 : Int)) = false := decide_eq_false (by have := HF1.out; omega)
                    have g6 : f2 = f1 := by have := HF1.out; have := HF2.out; omega
                    subst g6
                    clear hfu c0
                    go_wp2_with fail
                    go_quiet ((go_at_call 24; exact Calls.quiet_of_same (CR2.out _)))
                    go_wp2_with fail
                    go_roundw
                    case rel => exact HS.out _
                    case measure => simp [intOf]; omega
                  · have c71b : (cd == 71) = false := by rw [beq_eq_false_iff_ne]; exact c71
                    clear c0 c71
                    go_wp2_with fail
                    go_quiet ((go_at_call 24; exact Calls.quiet_of_same (CR2.out _)))
                    go_wp2_with fail
                    go_roundw
                    case rel => exact HS.out _
                    case measure => simp [intOf]; omega
              · have e2b : ((kk : Int) == 2) = false := by rw [beq_eq_false_iff_ne]; omega
                have e2c : (kk == 2) = false := by rw [beq_eq_false_iff_ne]; exact e2
                have e2d : decide (kk = 2) = false := decide_eq_false e2
                clear e2
                by_cases c71 : cd = 71
                · subst c71
                  have hfu := HFULL.out rfl
                  have g5 : decide (pm ≤ f1) = false := decide_eq_false (by have := HF1.out; omega)
                  have g5c : decide ((pm : Int) ≤ (f1 : Int)) = false := decide_eq_false (by have := HF1.out; omega)
                  have g6 : f2 = f1 := by have := HF1.out; have := HF2.out; omega
                  subst g6
                  clear hfu
                  go_wp2_with fail
                  go_quiet ((go_at_call 24; exact Calls.quiet_of_same (CR2.out _)))
                  go_wp2_with fail
                  go_roundw
                  case rel => exact HS.out _
                  case measure => simp [intOf]; omega
                · have c71b : (cd == 71) = false := by rw [beq_eq_false_iff_ne]; exact c71
                  clear c71
                  go_wp2_with fail
                  go_quiet ((go_at_call 24; exact Calls.quiet_of_same (CR2.out _)))
                  go_wp2_with fail
                  go_roundw
                  case rel => exact HS.out _
                  case measure => simp [intOf]; omega
        · by_cases hk8 : kd = 8
          · subst hk8
            have C := Lib.hid (H1.out.disk.crash (HI1.out.ok (by omega) (by omega)) pK kn kc ks (by
              have hb1 : Below w.heap.size w (wr.alloc (.cells #[.int .i64 8, .string na, .string nz, .int .i64 num, .slice pA pm pd, .slice pK kn kc] 33)) := H1.out.old
              exact ⟨HPK.out.1, fun hn0 => by
                obtain ⟨b, o, e, hlt2, hc⟩ := HPK.out.2 hn0
                exact ⟨b, o, e, Nat.lt_of_lt_of_le hlt2 hb1.size, fun i z hi => (hb1.cell (p := ⟨b, o + i, none⟩) hlt2).trans (hc i z hi)⟩⟩) (by unfold maxLen at hpk; omega) (fun h0 b o e hx => by
              obtain ⟨b', o', e', hlt2, _⟩ := HPK.out.2 h0
              rw [e] at e'; injection e' with e'; injection e' with e' _ _
              have := H1.out.own b hx; omega))
            clear hk6
            go_wp2_with fail
            ((with_reducible refine CR.out.mono ?_))
            rintro e V1 ⟨rfl, rfl⟩
            go_wp2_with fail
            ((with_reducible refine C.out.mono ?_))
            rintro e V2 ⟨rfl, ha⟩
            obtain ⟨X2, h2, hs2, hk2⟩ := H1.out.after ha
            have hob : Blk V2 wr.heap.size 33 _ := (hk2.block _ OB1.out.lt hXo).trans OB1.out
            obtain ⟨s2, hs2e⟩ : ∃ s2, s2 = crashS ks s := ⟨_, rfl⟩
            rw [← hs2e] at h2
            have HB2 := Lib.hid h2
            have HI2 := Lib.hid (show Inv r (j + 1) s2 from hs2e ▸ (HI1.out.crash ks).more)
            have HOB := Lib.hid hob
            clear C CR ha h2 hs2 hk2 hob hs2e
            have CN := HB2.out.disk.names (HI2.out.ok (by omega) (by omega))
            have CN := Lib.hid CN
            go_wp2_with fail
            ((with_reducible refine CN.out.mono ?_))
            rintro e V3 ⟨v, rfl, hrow, b3⟩
            have hln : (s2.V.map fun t => t.1).length = s2.V.length := List.length_map _
            obtain ⟨An, cn, ev, hcn, hcells⟩ := strs_row hrow
            subst ev
            rw [hln] at hcells ⊢
            have hVl := HI2.out.len
            obtain ⟨L, hL⟩ : ∃ L, L = s2.V.length := ⟨_, rfl⟩
            rw [← hL] at hcells hVl ⊢
            have h3 := HB2.out.below b3
            have HL := Lib.hid hL
            have HC := Lib.hid hcells
            have H3 := Lib.hid h3
            have HOB3 := Lib.hid (HOB.out.below b3 HOB.out.lt)
            have HR := Lib.hid (disk_rise h3.disk)
            have HN0 := Lib.hid (show NInv V3 s2 (.int .i64 0) (.int .i64 0) V3 from ⟨0, Nat.zero_le _, rfl, by simp [tot], Below.refl _ _⟩)
            clear hrow b3 hln hcells h3 hL CN
            go_wp2_with fail
            go_loopw [10, 63] (fun t i wr => NInv V3 s2 t i wr) (fun _ i _ => L - (intOf i).toNat)
            case atStart => exact HN0.out
            case round =>
              clear HN0
              obtain ⟨i, hi, rfl, rfl, hbl⟩ := hrel
              rw [← HL.out] at hi
              by_cases hlt2 : i < L
              · have hlt2' : (i : Int) < (L : Int) := by omega
                obtain ⟨nb, hAn, hnb, hnc⟩ := HC.out (by omega)
                subst hAn
                obtain ⟨t, ht⟩ : ∃ t, s2.V[i]? = some t := ⟨s2.V[i]'(by have := HL.out; omega), List.getElem?_eq_getElem _⟩
                have y9 : wr.cell? ⟨nb, i, none⟩ = some (.string ⟨t.1.toArray⟩) := by
                  have := hnc i t.1 (by rw [List.getElem?_map, ht]; rfl)
                  rw [Nat.zero_add, enc_str] at this
                  rw [hbl.cell (p := ⟨nb, i, none⟩) hnb]; exact this
                have hnm := HI2.out.names t (List.mem_of_getElem? ht)
                have h4 := H3.out.below hbl
                have CD := h4.disk.read (HI2.out.ok (by omega) (by omega)) ⟨t.1.toArray⟩ (by show t.1.toArray.size ≤ maxLen; rw [List.size_toArray]; unfold maxLen; omega)
                have hrd : readS (⟨t.1.toArray⟩ : ByteArray).data.toList s2 = (0, t.2.1) := by
                  unfold readS
                  rw [HI2.out.down, if_neg (by decide), show (⟨t.1.toArray⟩ : ByteArray).data.toList = t.1 from rfl, vlook_at HR.out ht]
                rw [hrd] at CD
                have CD := Lib.hid CD
                have htt := tot_take ht
                have htl := tot_take_le s2.V i
                have htl2 := tot_take_le s2.V (i + 1)
                have hrm := HI2.out.room
                obtain ⟨T0, hT0⟩ : ∃ T0, T0 = tot (s2.V.take i) := ⟨_, rfl⟩
                obtain ⟨q, hq⟩ : ∃ q, q = t.2.1.length := ⟨_, rfl⟩
                rw [← hT0, ← hq] at htt
                rw [← hT0] at htl ⊢
                have hT0b : T0 ≤ 255 := by omega
                have hqb : T0 + q ≤ 255 := by omega
                have HTT := Lib.hid htt
                have HBL := Lib.hid hbl
                have HQ := Lib.hid hq
                clear hnc ht h4 hrd htt htl htl2 hrm hT0 hbl hq
                go_wp2_with fail
                ((with_reducible refine CD.out.mono ?_))
                rintro e V5 ⟨v5, rfl, hrow5, b5⟩
                obtain ⟨A5, c5, ev5, -, -⟩ := row_shape (row_base hrow5 (Nat.zero_le _))
                have ev5 : v5 = .slice A5 q c5 := ev5.trans (by rw [HQ.out])
                subst ev5
                have HN := Lib.hid (show NInv V3 s2 (.int .i64 ((T0 : Int) + (q : Int))) (.int .i64 ((i : Int) + 1)) V5 from ⟨i + 1, by rw [← HL.out]; omega, by rw [show ((i : Int) + 1) = ((i + 1 : Nat) : Int) by omega], by rw [HTT.out, show ((T0 : Int) + (q : Int)) = ((T0 + q : Nat) : Int) by omega], HBL.out.trans (b5.mono HBL.out.size)⟩)
                clear hrow5 b5 CD
                go_wp2_with fail
                go_roundw
                case rel => exact HN.out
                case measure => simp [intOf]; omega
              · have hlt2' : ¬ (i : Int) < (L : Int) := by omega
                have hiL : s2.V.take i = s2.V := List.take_of_length_le (by rw [← HL.out]; omega)
                rw [hiL]
                obtain ⟨T, hT⟩ : ∃ T, T = tot s2.V := ⟨_, rfl⟩
                obtain ⟨f2, hf2⟩ : ∃ f2, f2 = s2.free := ⟨_, rfl⟩
                have hrm := HI2.out.room
                rw [← hT, ← hf2] at hrm
                rw [← hT]
                have h4 := H3.out.below hbl
                have CR2 := fun (k : Nat) => (h4.below (w' := wr.drewN k) ⟨rfl, rfl, rfl, Nat.le_refl _, fun _ _ => rfl⟩).disk.room
                rw [← hf2] at CR2
                have CR2 := Lib.hid (fun (k : Nat) => (CR2 k).mono (fun _ _ h => show _ ∧ _ from ⟨h.1, h.2.symm⟩))
                have hob4 : Blk wr _ 33 _ := HOB3.out.below hbl HOB3.out.lt
                have z0 : wr.cell? ⟨_, 0, none⟩ = some (.int .i64 8) := hob4.cell 0
                have z4 : wr.cell? ⟨_, 4, none⟩ = some (.slice pA pm pd) := hob4.cell 4
                have g1 : IntKind.i64.wrap ((r : Int) - (T : Int)) = (f2 : Int) := by rw [IntWalk.i64_in _ (by omega)]; omega
                have g2 : decide ((f2 : Int) < 0) = false := decide_eq_false (by omega)
                have HS := Lib.hid (fun (k : Nat) => show RInv w dp n r (.int .i64 ((j : Int) + 1)) (wr.drewN k) from
                  ⟨j + 1, s2, X2, by omega, by rw [show ((j : Int) + 1) = ((j + 1 : Nat) : Int) by omega], h4.below ⟨rfl, rfl, rfl, Nat.le_refl _, fun _ _ => rfl⟩, by rw [show min (j + 1) 100 = j + 1 by omega]; exact HI2.out⟩)
                have HF2 := Lib.hid hf2
                clear hiL hT hf2 hrm h4 hob4 hbl
                go_wp2_with fail
                go_quiet ((go_at_call 24; exact Calls.quiet_of_same (CR2.out _)))
                go_wp2_with fail
                go_roundw
                case rel => exact HS.out _
                case measure => simp [intOf]; omega
          · have hk8b : (kd == 8) = false := by rw [beq_eq_false_iff_ne]; exact hk8
            have hk2b : (kd == 2) = false := by rw [beq_eq_false_iff_ne]; omega
            have HB2 := Lib.hid H1.out
            have HI2 := Lib.hid HI1.out.more
            have HOB := Lib.hid OB1.out
            obtain ⟨s2, hs2e⟩ : ∃ s2, s2 = s := ⟨_, rfl⟩
            subst hs2e
            have hways : (¬ (1 : Int) ≤ kd) ∨ ((1 : Int) ≤ kd ∧ ¬ kd ≤ 6) := by omega
            clear hk6 hk8
            rcases hways with k1 | ⟨k1, k6⟩
            · go_wp2_with fail
              ((with_reducible refine CR.out.mono ?_))
              rintro e V2 ⟨rfl, rfl⟩
              clear CR
              have CN := HB2.out.disk.names (HI2.out.ok (by omega) (by omega))
              have CN := Lib.hid CN
              go_wp2_with fail
              ((with_reducible refine CN.out.mono ?_))
              rintro e V3 ⟨v, rfl, hrow, b3⟩
              have hln : (s2.V.map fun t => t.1).length = s2.V.length := List.length_map _
              obtain ⟨An, cn, ev, hcn, hcells⟩ := strs_row hrow
              subst ev
              rw [hln] at hcells ⊢
              have hVl := HI2.out.len
              obtain ⟨L, hL⟩ : ∃ L, L = s2.V.length := ⟨_, rfl⟩
              rw [← hL] at hcells hVl ⊢
              have h3 := HB2.out.below b3
              have HL := Lib.hid hL
              have HC := Lib.hid hcells
              have H3 := Lib.hid h3
              have HOB3 := Lib.hid (HOB.out.below b3 HOB.out.lt)
              have HR := Lib.hid (disk_rise h3.disk)
              have HN0 := Lib.hid (show NInv V3 s2 (.int .i64 0) (.int .i64 0) V3 from ⟨0, Nat.zero_le _, rfl, by simp [tot], Below.refl _ _⟩)
              clear hrow b3 hln hcells h3 hL CN
              go_wp2_with fail
              go_loopw [10, 63] (fun t i wr => NInv V3 s2 t i wr) (fun _ i _ => L - (intOf i).toNat)
              case atStart => exact HN0.out
              case round =>
                clear HN0
                obtain ⟨i, hi, rfl, rfl, hbl⟩ := hrel
                rw [← HL.out] at hi
                by_cases hlt2 : i < L
                · have hlt2' : (i : Int) < (L : Int) := by omega
                  obtain ⟨nb, hAn, hnb, hnc⟩ := HC.out (by omega)
                  subst hAn
                  obtain ⟨t, ht⟩ : ∃ t, s2.V[i]? = some t := ⟨s2.V[i]'(by have := HL.out; omega), List.getElem?_eq_getElem _⟩
                  have y9 : wr.cell? ⟨nb, i, none⟩ = some (.string ⟨t.1.toArray⟩) := by
                    have := hnc i t.1 (by rw [List.getElem?_map, ht]; rfl)
                    rw [Nat.zero_add, enc_str] at this
                    rw [hbl.cell (p := ⟨nb, i, none⟩) hnb]; exact this
                  have hnm := HI2.out.names t (List.mem_of_getElem? ht)
                  have h4 := H3.out.below hbl
                  have CD := h4.disk.read (HI2.out.ok (by omega) (by omega)) ⟨t.1.toArray⟩ (by show t.1.toArray.size ≤ maxLen; rw [List.size_toArray]; unfold maxLen; omega)
                  have hrd : readS (⟨t.1.toArray⟩ : ByteArray).data.toList s2 = (0, t.2.1) := by
                    unfold readS
                    rw [HI2.out.down, if_neg (by decide), show (⟨t.1.toArray⟩ : ByteArray).data.toList = t.1 from rfl, vlook_at HR.out ht]
                  rw [hrd] at CD
                  have CD := Lib.hid CD
                  have htt := tot_take ht
                  have htl := tot_take_le s2.V i
                  have htl2 := tot_take_le s2.V (i + 1)
                  have hrm := HI2.out.room
                  obtain ⟨T0, hT0⟩ : ∃ T0, T0 = tot (s2.V.take i) := ⟨_, rfl⟩
                  obtain ⟨q, hq⟩ : ∃ q, q = t.2.1.length := ⟨_, rfl⟩
                  rw [← hT0, ← hq] at htt
                  rw [← hT0] at htl ⊢
                  have hT0b : T0 ≤ 255 := by omega
                  have hqb : T0 + q ≤ 255 := by omega
                  have HTT := Lib.hid htt
                  have HBL := Lib.hid hbl
                  have HQ := Lib.hid hq
                  clear hnc ht h4 hrd htt htl htl2 hrm hT0 hbl hq
                  go_wp2_with fail
                  ((with_reducible refine CD.out.mono ?_))
                  rintro e V5 ⟨v5, rfl, hrow5, b5⟩
                  obtain ⟨A5, c5, ev5, -, -⟩ := row_shape (row_base hrow5 (Nat.zero_le _))
                  have ev5 : v5 = .slice A5 q c5 := ev5.trans (by rw [HQ.out])
                  subst ev5
                  have HN := Lib.hid (show NInv V3 s2 (.int .i64 ((T0 : Int) + (q : Int))) (.int .i64 ((i : Int) + 1)) V5 from ⟨i + 1, by rw [← HL.out]; omega, by rw [show ((i : Int) + 1) = ((i + 1 : Nat) : Int) by omega], by rw [HTT.out, show ((T0 : Int) + (q : Int)) = ((T0 + q : Nat) : Int) by omega], HBL.out.trans (b5.mono HBL.out.size)⟩)
                  clear hrow5 b5 CD
                  go_wp2_with fail
                  go_roundw
                  case rel => exact HN.out
                  case measure => simp [intOf]; omega
                · have hlt2' : ¬ (i : Int) < (L : Int) := by omega
                  have hiL : s2.V.take i = s2.V := List.take_of_length_le (by rw [← HL.out]; omega)
                  rw [hiL]
                  obtain ⟨T, hT⟩ : ∃ T, T = tot s2.V := ⟨_, rfl⟩
                  obtain ⟨f2, hf2⟩ : ∃ f2, f2 = s2.free := ⟨_, rfl⟩
                  have hrm := HI2.out.room
                  rw [← hT, ← hf2] at hrm
                  rw [← hT]
                  have h4 := H3.out.below hbl
                  have CR2 := fun (k : Nat) => (h4.below (w' := wr.drewN k) ⟨rfl, rfl, rfl, Nat.le_refl _, fun _ _ => rfl⟩).disk.room
                  rw [← hf2] at CR2
                  have CR2 := Lib.hid (fun (k : Nat) => (CR2 k).mono (fun _ _ h => show _ ∧ _ from ⟨h.1, h.2.symm⟩))
                  have hob4 : Blk wr _ 33 _ := HOB3.out.below hbl HOB3.out.lt
                  have z0 : wr.cell? ⟨_, 0, none⟩ = some (.int .i64 kd) := hob4.cell 0
                  have z4 : wr.cell? ⟨_, 4, none⟩ = some (.slice pA pm pd) := hob4.cell 4
                  have g1 : IntKind.i64.wrap ((r : Int) - (T : Int)) = (f2 : Int) := by rw [IntWalk.i64_in _ (by omega)]; omega
                  have g2 : decide ((f2 : Int) < 0) = false := decide_eq_false (by omega)
                  have HS := Lib.hid (fun (k : Nat) => show RInv w dp n r (.int .i64 ((j : Int) + 1)) (wr.drewN k) from
                    ⟨j + 1, s2, X, by omega, by rw [show ((j : Int) + 1) = ((j + 1 : Nat) : Int) by omega], h4.below ⟨rfl, rfl, rfl, Nat.le_refl _, fun _ _ => rfl⟩, by rw [show min (j + 1) 100 = j + 1 by omega]; exact HI2.out⟩)
                  have HF2 := Lib.hid hf2
                  clear hiL hT hf2 hrm h4 hob4 hbl
                  go_wp2_with fail
                  go_quiet ((go_at_call 24; exact Calls.quiet_of_same (CR2.out _)))
                  go_wp2_with fail
                  go_roundw
                  case rel => exact HS.out _
                  case measure => simp [intOf]; omega
            · go_wp2_with fail
              ((with_reducible refine CR.out.mono ?_))
              rintro e V2 ⟨rfl, rfl⟩
              clear CR
              have CN := HB2.out.disk.names (HI2.out.ok (by omega) (by omega))
              have CN := Lib.hid CN
              go_wp2_with fail
              ((with_reducible refine CN.out.mono ?_))
              rintro e V3 ⟨v, rfl, hrow, b3⟩
              have hln : (s2.V.map fun t => t.1).length = s2.V.length := List.length_map _
              obtain ⟨An, cn, ev, hcn, hcells⟩ := strs_row hrow
              subst ev
              rw [hln] at hcells ⊢
              have hVl := HI2.out.len
              obtain ⟨L, hL⟩ : ∃ L, L = s2.V.length := ⟨_, rfl⟩
              rw [← hL] at hcells hVl ⊢
              have h3 := HB2.out.below b3
              have HL := Lib.hid hL
              have HC := Lib.hid hcells
              have H3 := Lib.hid h3
              have HOB3 := Lib.hid (HOB.out.below b3 HOB.out.lt)
              have HR := Lib.hid (disk_rise h3.disk)
              have HN0 := Lib.hid (show NInv V3 s2 (.int .i64 0) (.int .i64 0) V3 from ⟨0, Nat.zero_le _, rfl, by simp [tot], Below.refl _ _⟩)
              clear hrow b3 hln hcells h3 hL CN
              go_wp2_with fail
              go_loopw [10, 63] (fun t i wr => NInv V3 s2 t i wr) (fun _ i _ => L - (intOf i).toNat)
              case atStart => exact HN0.out
              case round =>
                clear HN0
                obtain ⟨i, hi, rfl, rfl, hbl⟩ := hrel
                rw [← HL.out] at hi
                by_cases hlt2 : i < L
                · have hlt2' : (i : Int) < (L : Int) := by omega
                  obtain ⟨nb, hAn, hnb, hnc⟩ := HC.out (by omega)
                  subst hAn
                  obtain ⟨t, ht⟩ : ∃ t, s2.V[i]? = some t := ⟨s2.V[i]'(by have := HL.out; omega), List.getElem?_eq_getElem _⟩
                  have y9 : wr.cell? ⟨nb, i, none⟩ = some (.string ⟨t.1.toArray⟩) := by
                    have := hnc i t.1 (by rw [List.getElem?_map, ht]; rfl)
                    rw [Nat.zero_add, enc_str] at this
                    rw [hbl.cell (p := ⟨nb, i, none⟩) hnb]; exact this
                  have hnm := HI2.out.names t (List.mem_of_getElem? ht)
                  have h4 := H3.out.below hbl
                  have CD := h4.disk.read (HI2.out.ok (by omega) (by omega)) ⟨t.1.toArray⟩ (by show t.1.toArray.size ≤ maxLen; rw [List.size_toArray]; unfold maxLen; omega)
                  have hrd : readS (⟨t.1.toArray⟩ : ByteArray).data.toList s2 = (0, t.2.1) := by
                    unfold readS
                    rw [HI2.out.down, if_neg (by decide), show (⟨t.1.toArray⟩ : ByteArray).data.toList = t.1 from rfl, vlook_at HR.out ht]
                  rw [hrd] at CD
                  have CD := Lib.hid CD
                  have htt := tot_take ht
                  have htl := tot_take_le s2.V i
                  have htl2 := tot_take_le s2.V (i + 1)
                  have hrm := HI2.out.room
                  obtain ⟨T0, hT0⟩ : ∃ T0, T0 = tot (s2.V.take i) := ⟨_, rfl⟩
                  obtain ⟨q, hq⟩ : ∃ q, q = t.2.1.length := ⟨_, rfl⟩
                  rw [← hT0, ← hq] at htt
                  rw [← hT0] at htl ⊢
                  have hT0b : T0 ≤ 255 := by omega
                  have hqb : T0 + q ≤ 255 := by omega
                  have HTT := Lib.hid htt
                  have HBL := Lib.hid hbl
                  have HQ := Lib.hid hq
                  clear hnc ht h4 hrd htt htl htl2 hrm hT0 hbl hq
                  go_wp2_with fail
                  ((with_reducible refine CD.out.mono ?_))
                  rintro e V5 ⟨v5, rfl, hrow5, b5⟩
                  obtain ⟨A5, c5, ev5, -, -⟩ := row_shape (row_base hrow5 (Nat.zero_le _))
                  have ev5 : v5 = .slice A5 q c5 := ev5.trans (by rw [HQ.out])
                  subst ev5
                  have HN := Lib.hid (show NInv V3 s2 (.int .i64 ((T0 : Int) + (q : Int))) (.int .i64 ((i : Int) + 1)) V5 from ⟨i + 1, by rw [← HL.out]; omega, by rw [show ((i : Int) + 1) = ((i + 1 : Nat) : Int) by omega], by rw [HTT.out, show ((T0 : Int) + (q : Int)) = ((T0 + q : Nat) : Int) by omega], HBL.out.trans (b5.mono HBL.out.size)⟩)
                  clear hrow5 b5 CD
                  go_wp2_with fail
                  go_roundw
                  case rel => exact HN.out
                  case measure => simp [intOf]; omega
                · have hlt2' : ¬ (i : Int) < (L : Int) := by omega
                  have hiL : s2.V.take i = s2.V := List.take_of_length_le (by rw [← HL.out]; omega)
                  rw [hiL]
                  obtain ⟨T, hT⟩ : ∃ T, T = tot s2.V := ⟨_, rfl⟩
                  obtain ⟨f2, hf2⟩ : ∃ f2, f2 = s2.free := ⟨_, rfl⟩
                  have hrm := HI2.out.room
                  rw [← hT, ← hf2] at hrm
                  rw [← hT]
                  have h4 := H3.out.below hbl
                  have CR2 := fun (k : Nat) => (h4.below (w' := wr.drewN k) ⟨rfl, rfl, rfl, Nat.le_refl _, fun _ _ => rfl⟩).disk.room
                  rw [← hf2] at CR2
                  have CR2 := Lib.hid (fun (k : Nat) => (CR2 k).mono (fun _ _ h => show _ ∧ _ from ⟨h.1, h.2.symm⟩))
                  have hob4 : Blk wr _ 33 _ := HOB3.out.below hbl HOB3.out.lt
                  have z0 : wr.cell? ⟨_, 0, none⟩ = some (.int .i64 kd) := hob4.cell 0
                  have z4 : wr.cell? ⟨_, 4, none⟩ = some (.slice pA pm pd) := hob4.cell 4
                  have g1 : IntKind.i64.wrap ((r : Int) - (T : Int)) = (f2 : Int) := by rw [IntWalk.i64_in _ (by omega)]; omega
                  have g2 : decide ((f2 : Int) < 0) = false := decide_eq_false (by omega)
                  have HS := Lib.hid (fun (k : Nat) => show RInv w dp n r (.int .i64 ((j : Int) + 1)) (wr.drewN k) from
                    ⟨j + 1, s2, X, by omega, by rw [show ((j : Int) + 1) = ((j + 1 : Nat) : Int) by omega], h4.below ⟨rfl, rfl, rfl, Nat.le_refl _, fun _ _ => rfl⟩, by rw [show min (j + 1) 100 = j + 1 by omega]; exact HI2.out⟩)
                  have HF2 := Lib.hid hf2
                  clear hiL hT hf2 hrm h4 hob4 hbl
                  go_wp2_with fail
                  go_quiet ((go_at_call 24; exact Calls.quiet_of_same (CR2.out _)))
                  go_wp2_with fail
                  go_roundw
                  case rel => exact HS.out _
                  case measure => simp [intOf]; omega
    · have hlt' : ¬ (j : Int) < (n : Int) := by omega
      have HB := Lib.hid h.old
      clear h hI
      go_wp2
      go_ret
      exact ⟨rfl, HB.out⟩
end Go.Proofs.Ytmcapiikplflkaa
