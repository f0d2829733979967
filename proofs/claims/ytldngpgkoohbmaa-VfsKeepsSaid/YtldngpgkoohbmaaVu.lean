/- VfsKeeps answers true. -/
import Derived.Test.YtldngpgkoohbmaaVt
import Derived.Test.YtldngpgkoohbmaaLp
namespace Go.Proofs.Ytldngpgkoohbmaa
open Go.RowKit Go.Maps Go.Sort

/-- A row of bytes of the law's own, beside a disk's blocks. -/
structure KRow (w0 w : World) (X : Nat → Prop) (v : Value) (xs : List UInt8) : Prop where
  row : w.ownsRow 0 5 1 v xs.length (xs.map u8V)
  far : ∀ r, v.ownBlock = some r → ¬ X r ∧ w0.heap.size ≤ r
theorem own_lt {w : World} {e : TypeId} {v : Value} {n : Nat} {xs : List Value} (h : w.ownsRow 0 e 1 v n xs) {r : Nat} (hr : v.ownBlock = some r) : r < w.heap.size := by
  rcases h.2 with ⟨e, _⟩ | ⟨g, cap, cur, e, _, hb, _⟩
  · rw [e] at hr; cases hr
  · rw [e] at hr
    obtain rfl : g = r := by simpa [Value.ownBlock] using hr
    exact (Array.getElem?_eq_some_iff.1 hb).1
theorem row_keep {w w' : World} {e : TypeId} {v : Value} {n : Nat} {xs : List Value} (h : w.ownsRow 0 e 1 v n xs) (hk : ∀ r, v.ownBlock = some r → w'.heap[r]? = w.heap[r]?) : w'.ownsRow 0 e 1 v n xs := by
  refine ⟨h.1, ?_⟩
  rcases h.2 with h0 | ⟨g, cap, cur, e, h1, h2, h3⟩
  · exact .inl h0
  · exact .inr ⟨g, cap, cur, e, h1, (hk g (by rw [e]; rfl)).trans h2, h3⟩
theorem KRow.after {w0 w w' : World} {X X' : Nat → Prop} {v : Value} {xs : List UInt8} (h : KRow w0 w X v xs) (hs : ∀ j, X' j → X j ∨ w.heap.size ≤ j) (hk : Kept X w w') : KRow w0 w' X' v xs :=
  ⟨row_keep h.row fun r hr => hk.block r (own_lt h.row hr) (h.far r hr).1, fun r hr => ⟨fun hx => by
    rcases hs r hx with h1 | h1
    · exact (h.far r hr).1 h1
    · have := own_lt h.row hr; omega, (h.far r hr).2⟩⟩
theorem KRow.below {w0 w w' : World} {X : Nat → Prop} {v : Value} {xs : List UInt8} (h : KRow w0 w X v xs) (hb : Below w.heap.size w w') : KRow w0 w' X v xs :=
  ⟨row_keep h.row fun r hr => hb.block r (own_lt h.row hr), h.far⟩
/-- Bytes more behind the row. -/
theorem KRow.push {w0 w : World} {dp : Nat} {X : Nat → Prop} {s : Sta} {v : Value} {xs bs : List UInt8} {A : Option Addr} {m c : Nat} (ty : TypeId) (h : KRow w0 w X v xs) (hD : DB w0 w dp X s) (hb : BytesAt w A m bs) (hl : xs.length + m ≤ 1000000000) :
    ∃ A' c' w', (Builtin.append_ #[30, 30] ty #[v, .slice A m c]).run Try.prog w = .ok (.slice A' (xs.length + m) c') w' ∧ KRow w0 w' X (.slice A' (xs.length + m) c') (xs ++ bs) ∧ DB w0 w' dp X s := by
  obtain ⟨A', c', w', h1, h2, h3, h4⟩ := append_bytes (c := c) ty h.row hb hl
  have hsz := hD.old.size
  refine ⟨A', c', w', h1, ⟨h2, fun r hr => ?_⟩, ⟨hD.disk.keep fun j hj => h3.block j (hD.disk.lt hj) (fun e => (h.far j e.symm).1 hj), hD.own, hD.old.grown h3 hsz (fun r hr => (h.far r hr).2)⟩⟩
  rcases h4 with h4 | h4
  · rw [h4] at hr; exact h.far r hr
  · rw [h4] at hr; injection hr with hr
    exact ⟨fun hx => by have := hD.disk.lt hx; omega, by omega⟩
theorem KRow.shape {w0 w : World} {X : Nat → Prop} {v : Value} {xs : List UInt8} (h : KRow w0 w X v xs) : ∃ A c, v = .slice A xs.length c ∧ xs.length ≤ c ∧ BytesAt w A xs.length xs ∧ ∀ b o, A = some ⟨b, o, none⟩ → ¬ X b := by
  obtain ⟨A, c, rfl, hc, _⟩ := row_shape h.row
  obtain ⟨A2, c2, e, hb, _⟩ := row_bytes h.row
  injection e with e1 _ e3
  subst e1 e3
  refine ⟨A, c, rfl, hc, hb, fun b o e => ?_⟩
  rcases h.row.2 with ⟨e2, _⟩ | ⟨g, cap, cur, e2, _⟩
  · injection e2 with e2 _ _; rw [e] at e2; cases e2
  · injection e2 with e2 _ _
    rw [e] at e2; injection e2 with e2; injection e2 with e2 e3 _
    exact (h.far b (by rw [e, e3]; rfl)).1
def KInv (w : World) (dp n : Nat) (al sf i : Value) (wr : World) : Prop := ∃ (j : Nat) (xs : List UInt8) (q fu : Nat) (dn : Bool) (X : Nat → Prop), j ≤ n ∧ i = .int .i64 (j : Nat) ∧ sf = .int .i64 (q : Nat) ∧ q ≤ xs.length ∧ xs.length ≤ 2000 * min j 20 ∧ fu ≤ 7 ∧ KRow w wr X al xs ∧ DB w wr dp X (sK xs q (100000 - xs.length) fu dn)
theorem str_f : (⟨#[102]⟩ : ByteArray).data.toList = [102] := rfl
set_option maxHeartbeats 16000000 in
set_option maxRecDepth 100000 in
theorem vfsKeeps_walk (A : Option Addr) (n c : Nat) (ps : List (Option Addr × Nat × Nat × List UInt8)) (sy k fl : Int) (w : World) (hp : PartsAt w A n ps) (hn : n ≤ maxLen) :
    Calls Try.prog 4 #[.slice A n c, .int .i64 sy, .int .i64 k, .int .i64 fl] w fun e w' => e = .returned (.bool true) ∧ Below w.heap.size w w' := by
  have hs1 := and_le sy 15 15 rfl (by decide)
  obtain ⟨s, hsI⟩ : ∃ s : Nat, bits BinOp.and IntKind.i64 sy 15 = (s : Int) := ⟨(bits BinOp.and IntKind.i64 sy 15).toNat, by omega⟩
  have hs15 : s ≤ 15 := by omega
  have hf1 := and_le fl 7 7 rfl (by decide)
  obtain ⟨f, hfI⟩ : ∃ f : Nat, bits BinOp.and IntKind.i64 fl 7 = (f : Int) := ⟨(bits BinOp.and IntKind.i64 fl 7).toNat, by omega⟩
  have hf7 : f ≤ 7 := by omega
  have hpl := hp.1
  have HP := Lib.hid hp
  have NDP := Lib.hid (fun (A : Option Addr) (n : Nat) (zs : List UInt8) (W : World) (dp : Nat) (X : Nat → Prop) (s : Sta) (hb : BytesAt w A n zs) (hD : DB w W dp X s) (hn0 : 0 < n) (b o : Nat) (e : A = some ⟨b, o, none⟩) => show b ≠ dp by
    obtain ⟨b', o', e', hlt, _⟩ := hb.2 hn0
    rw [e] at e'
    injection e' with e'
    injection e' with e' _ _
    have := hD.at_.1
    omega)
  unfold maxLen at hn
  clear hp hs1 hf1
  go_enter Try.func4, Try.ntmps4
  go_wp2_with fail
  refine (new_disk 100000 _).mono ?_
  rintro e w1 ⟨dp, X1, rfl, h1⟩
  rw [show posP 100000 = 100000 from rfl] at h1
  go_wp2_with fail
  refine (alive_any _).mono ?_
  rintro e w2 ⟨rfl, b2⟩
  have h2 := h1.below b2
  have C := Lib.hid (h2.disk.create ⟨by decide, by decide, by decide, by decide, by simp⟩ ⟨#[102]⟩ (by decide))
  rw [str_f, kp0] at C
  clear h1 b2
  go_wp2_with fail
  refine C.out.mono ?_
  rintro e w3 ⟨rfl, ha⟩
  obtain ⟨X3, h3, _, _⟩ := h2.after ha
  have h4 := h3.alloc (.cells #[] 5)
  have r4 : KRow w (w3.alloc (.cells #[] 5)) X3 (.slice (some ⟨w3.heap.size, 0, none⟩) 0 0) [] :=
    ⟨⟨rfl, .inr ⟨w3.heap.size, 0, #[], rfl, Nat.zero_le _, heap_alloc_new w3 _, Nat.le_refl _, Nat.zero_le _, rfl, rfl⟩⟩, fun r hr => by
      obtain rfl : w3.heap.size = r := by simpa [Value.ownBlock] using hr
      exact ⟨fun hx => by have := h3.disk.lt hx; omega, h3.old.size⟩⟩
  clear C ha h2 h3
  go_wp2_with fail
  go_loopw [10, 11, 31] (fun al sf i wr => KInv w dp n al sf i wr) (fun _ _ i _ => n - (intOf i).toNat)
  case atStart => exact ⟨0, [], 0, 0, false, X3, Nat.zero_le _, rfl, rfl, Nat.le_refl _, by simp, by omega, r4, h4⟩
  case round =>
    clear r4 h4
    obtain ⟨j, xs, q, fu, dn, X, hj, rfl, rfl, hq, hxl, hfu, hR, hD⟩ := hrel
    obtain ⟨L, hL⟩ : ∃ L, L = xs.length := ⟨_, rfl⟩
    have HL := Lib.hid hL
    rw [← hL] at hxl hq
    by_cases hlt : j < n
    · have hlt' : (j : Int) < (n : Int) := by omega
      obtain ⟨pb, po, rfl, hpb, hpc⟩ := HP.out.2.2 (by omega)
      obtain ⟨p, hpj⟩ : ∃ p, ps[j]? = some p := ⟨ps[j]'(by omega), List.getElem?_eq_getElem _⟩
      obtain ⟨hpB, hpm⟩ := HP.out.2.1 p (List.mem_of_getElem? hpj)
      have y0 : wr.cell? ⟨pb, po + j, none⟩ = some (.slice p.1 p.2.1 p.2.2.1) := by
        rw [hD.old.cell (p := ⟨pb, po + j, none⟩) hpb]; exact hpc j p hpj
      clear hpc hpj
      obtain ⟨pA, pn, pc, bs⟩ := p
      simp only at hpB hpm y0
      have hbl := hpB.1
      have HPB := Lib.hid hpB
      unfold maxLen at hpm
      obtain ⟨A9, c9, rfl, hc9, _, _⟩ := hR.shape
      rw [← hL] at hR ⊢
      clear hpB hL
      by_cases hskip : 20 ≤ j ∨ 2000 < pn
      · rcases Nat.lt_or_ge j 20 with h20 | h20
        · have h20' : ¬ (20 : Int) ≤ (j : Int) := by omega
          have h2000 : (2000 : Int) < (pn : Int) := by omega
          go_wp2
          go_roundw
          case rel => exact ⟨j + 1, xs, q, fu, dn, X, by omega, by go_num, rfl, by rw [← HL.out]; exact hq, by rw [← HL.out]; omega, hfu, by rw [HL.out] at hR ⊢; exact hR, hD⟩
          case measure => simp [intOf]; omega
        · have h20' : (20 : Int) ≤ (j : Int) := by omega
          go_wp2
          go_roundw
          case rel => exact ⟨j + 1, xs, q, fu, dn, X, by omega, by go_num, rfl, by rw [← HL.out]; exact hq, by rw [← HL.out]; omega, hfu, by rw [HL.out] at hR ⊢; exact hR, hD⟩
          case measure => simp [intOf]; omega
      · have h20 : j < 20 := by omega
        have h20' : ¬ (20 : Int) ≤ (j : Int) := by omega
        have h2000 : ¬ (2000 : Int) < (pn : Int) := by omega
        have hpn : pn ≤ 2000 := by omega
        have hL40 : L ≤ 40000 := by omega
        have hxl2 : L + pn ≤ 2000 * min (j + 1) 20 := by omega
        clear hskip
        rcases Nat.lt_or_ge j s with hjs | hjs
        · have hjb : ((j : Int) == (s : Int)) = false := by rw [beq_eq_false_iff_ne]; omega
          have hb1 := HPB.out.up (fun b hb => hD.old.block b hb) hD.old.size
          have C2 := Lib.hid (hD.disk.append (c := pc) (sK_ok (by rw [← HL.out]; omega) (by omega) (by omega)) ⟨#[102]⟩ (by decide) hb1 (NDP.out _ _ _ _ _ _ _ HPB.out hD) (by omega))
          rw [str_f] at C2
          rcases kp1 (b := xs) (z := bs) (sf := q) (fr := 100000 - xs.length) (fu := fu) (dn := dn) (by rw [← HL.out]; omega) with e2 | e2
          · rw [e2] at C2
            clear e2 hb1
            go_wp2_with fail
            refine C2.out.mono ?_
            rintro e w5 ⟨rfl, ha⟩
            obtain ⟨X5, h5, hs5, k5⟩ := hD.after ha
            have r5 := hR.after hs5 k5
            have hb5 := HPB.out.up (fun b hb => h5.old.block b hb) h5.old.size
            obtain ⟨A6, c6, w6, hrun6, r6, h6⟩ := r5.push (c := pc) 30 h5 hb5 (by rw [← HL.out]; omega)
            rw [← HL.out] at hrun6 r6
            have H6 := Lib.hid hrun6
            have hfr : 100000 - xs.length - bs.length = 100000 - (xs ++ bs).length := by rw [List.length_append]; omega
            rw [hfr] at h6
            have HL6 := Lib.hid (show L + pn = (xs ++ bs).length by rw [List.length_append, ← HL.out, hbl])
            clear C2 ha hs5 k5 r5 hb5 hrun6 hfr h5
            have hle : j ≤ s := by omega
            have hle' : (j : Int) ≤ (s : Int) := by omega
            have C3 := Lib.hid (h6.disk.sync (sK_ok (by rw [← HL6.out]; omega) (by omega) (by omega)) ⟨#[102]⟩ (by decide))
            rw [str_f] at C3
            rcases kp2 (b := xs ++ bs) (sf := q) (fr := 100000 - (xs ++ bs).length) (fu := fu - 1) (dn := false) with e3 | e3
            · rw [e3] at C3
              clear e3
              go_wp2_with (at_builtin; refine wpList_append_run rfl (.tmp 55) (.tmp 56) 30 rfl _ _ _ rfl rfl H6.out ?_)
              refine C3.out.mono ?_
              rintro e w7 ⟨rfl, ha⟩
              obtain ⟨X7, h7, hs7, k7⟩ := h6.after ha
              have r7 := r6.after hs7 k7
              clear C3 ha hs7 k7
              go_wp2
              go_roundw
              case rel => exact ⟨j + 1, xs ++ bs, L + pn, fu - 1 - 1, false, X7, by omega, by go_num, by go_num, by rw [← HL6.out]; omega, by rw [← HL6.out]; omega, by omega, r7, by rw [HL6.out]; exact h7⟩
              case measure => simp [intOf]; omega
            · rw [e3] at C3
              clear e3
              go_wp2_with (at_builtin; refine wpList_append_run rfl (.tmp 55) (.tmp 56) 30 rfl _ _ _ rfl rfl H6.out ?_)
              refine C3.out.mono ?_
              rintro e w7 ⟨rfl, ha⟩
              obtain ⟨X7, h7, hs7, k7⟩ := h6.after ha
              have r7 := r6.after hs7 k7
              clear C3 ha hs7 k7
              go_wp2
              go_roundw
              case rel => exact ⟨j + 1, xs ++ bs, q, fu - 1, true, X7, by omega, by go_num, rfl, by rw [← HL6.out]; omega, by rw [← HL6.out]; omega, by omega, r7, h7⟩
              case measure => simp [intOf]; omega
          · rw [e2] at C2
            clear e2 hb1
            go_wp2_with fail
            refine C2.out.mono ?_
            rintro e w5 ⟨rfl, ha⟩
            obtain ⟨X5, h5, hs5, k5⟩ := hD.after ha
            have r5 := hR.after hs5 k5
            clear C2 ha hs5 k5
            have hle : j ≤ s := by omega
            have hle' : (j : Int) ≤ (s : Int) := by omega
            have C3 := Lib.hid (h5.disk.sync (sK_ok (by rw [← HL.out]; omega) (by omega) (by omega)) ⟨#[102]⟩ (by decide))
            rw [str_f, show syncS [102] (sK xs q (100000 - xs.length) fu true) = (70, sK xs q (100000 - xs.length) fu true) from rfl] at C3
            go_wp2_with fail
            refine C3.out.mono ?_
            rintro e w7 ⟨rfl, ha⟩
            obtain ⟨X7, h7, hs7, k7⟩ := h5.after ha
            have r7 := r5.after hs7 k7
            clear C3 ha hs7 k7
            go_wp2
            go_roundw
            case rel => exact ⟨j + 1, xs, q, fu, true, X7, by omega, by go_num, rfl, by rw [← HL.out]; omega, by rw [← HL.out]; omega, by omega, by rw [HL.out] at r7 ⊢; exact r7, h7⟩
            case measure => simp [intOf]; omega
        · rcases Nat.lt_or_ge s j with hjs2 | hjs2
          · have hjb : ((j : Int) == (s : Int)) = false := by rw [beq_eq_false_iff_ne]; omega
            have hb1 := HPB.out.up (fun b hb => hD.old.block b hb) hD.old.size
            have C2 := Lib.hid (hD.disk.append (c := pc) (sK_ok (by rw [← HL.out]; omega) (by omega) (by omega)) ⟨#[102]⟩ (by decide) hb1 (NDP.out _ _ _ _ _ _ _ HPB.out hD) (by omega))
            rw [str_f] at C2
            rcases kp1 (b := xs) (z := bs) (sf := q) (fr := 100000 - xs.length) (fu := fu) (dn := dn) (by rw [← HL.out]; omega) with e2 | e2
            · rw [e2] at C2
              clear e2 hb1
              go_wp2_with fail
              refine C2.out.mono ?_
              rintro e w5 ⟨rfl, ha⟩
              obtain ⟨X5, h5, hs5, k5⟩ := hD.after ha
              have r5 := hR.after hs5 k5
              have hb5 := HPB.out.up (fun b hb => h5.old.block b hb) h5.old.size
              obtain ⟨A6, c6, w6, hrun6, r6, h6⟩ := r5.push (c := pc) 30 h5 hb5 (by rw [← HL.out]; omega)
              rw [← HL.out] at hrun6 r6
              have H6 := Lib.hid hrun6
              have hfr : 100000 - xs.length - bs.length = 100000 - (xs ++ bs).length := by rw [List.length_append]; omega
              rw [hfr] at h6
              have HL6 := Lib.hid (show L + pn = (xs ++ bs).length by rw [List.length_append, ← HL.out, hbl])
              clear C2 ha hs5 k5 r5 hb5 hrun6 hfr h5
              have hle : s < j := by omega
              have hle' : ¬ (j : Int) ≤ (s : Int) := by omega
              go_wp2_with (at_builtin; refine wpList_append_run rfl (.tmp 55) (.tmp 56) 30 rfl _ _ _ rfl rfl H6.out ?_)
              go_roundw
              case rel => exact ⟨j + 1, xs ++ bs, q, fu - 1, false, X5, by omega, by go_num, rfl, by rw [← HL6.out]; omega, by rw [← HL6.out]; omega, by omega, r6, h6⟩
              case measure => simp [intOf]; omega
            · rw [e2] at C2
              clear e2 hb1
              go_wp2_with fail
              refine C2.out.mono ?_
              rintro e w5 ⟨rfl, ha⟩
              obtain ⟨X5, h5, hs5, k5⟩ := hD.after ha
              have r5 := hR.after hs5 k5
              clear C2 ha hs5 k5
              have hle : s < j := by omega
              have hle' : ¬ (j : Int) ≤ (s : Int) := by omega
              go_wp2
              go_roundw
              case rel => exact ⟨j + 1, xs, q, fu, true, X5, by omega, by go_num, rfl, by rw [← HL.out]; omega, by rw [← HL.out]; omega, by omega, by rw [HL.out] at r5 ⊢; exact r5, h5⟩
              case measure => simp [intOf]; omega
          · have hjb : ((j : Int) == (s : Int)) = true := by rw [beq_iff_eq]; omega
            have C1 := Lib.hid (hD.disk.fail (f : Nat))
            rw [show posP ((f : Nat) : Int) = f from by unfold posP; omega] at C1
            go_wp2_with fail
            refine C1.out.mono ?_
            rintro e w4 ⟨rfl, ha⟩
            obtain ⟨X4, h4, hs4, k4⟩ := hD.after ha
            have h4' : DB w w4 dp X4 (sK xs q (100000 - xs.length) f dn) := h4
            have r4 := hR.after hs4 k4
            clear C1 ha hs4 k4 h4
            have hb1 := HPB.out.up (fun b hb => h4'.old.block b hb) h4'.old.size
            have C2 := Lib.hid (h4'.disk.append (c := pc) (sK_ok (by rw [← HL.out]; omega) (by omega) (by omega)) ⟨#[102]⟩ (by decide) hb1 (NDP.out _ _ _ _ _ _ _ HPB.out h4') (by omega))
            rw [str_f] at C2
            rcases kp1 (b := xs) (z := bs) (sf := q) (fr := 100000 - xs.length) (fu := f) (dn := dn) (by rw [← HL.out]; omega) with e2 | e2
            · rw [e2] at C2
              clear e2 hb1
              go_wp2_with fail
              refine C2.out.mono ?_
              rintro e w5 ⟨rfl, ha⟩
              obtain ⟨X5, h5, hs5, k5⟩ := h4'.after ha
              have r5 := r4.after hs5 k5
              have hb5 := HPB.out.up (fun b hb => h5.old.block b hb) h5.old.size
              obtain ⟨A6, c6, w6, hrun6, r6, h6⟩ := r5.push (c := pc) 30 h5 hb5 (by rw [← HL.out]; omega)
              rw [← HL.out] at hrun6 r6
              have H6 := Lib.hid hrun6
              have hfr : 100000 - xs.length - bs.length = 100000 - (xs ++ bs).length := by rw [List.length_append]; omega
              rw [hfr] at h6
              have HL6 := Lib.hid (show L + pn = (xs ++ bs).length by rw [List.length_append, ← HL.out, hbl])
              clear C2 ha hs5 k5 r5 hb5 hrun6 hfr h5
              have hle : j ≤ s := by omega
              have hle' : (j : Int) ≤ (s : Int) := by omega
              have C3 := Lib.hid (h6.disk.sync (sK_ok (by rw [← HL6.out]; omega) (by omega) (by omega)) ⟨#[102]⟩ (by decide))
              rw [str_f] at C3
              rcases kp2 (b := xs ++ bs) (sf := q) (fr := 100000 - (xs ++ bs).length) (fu := f - 1) (dn := false) with e3 | e3
              · rw [e3] at C3
                clear e3
                go_wp2_with (at_builtin; refine wpList_append_run rfl (.tmp 55) (.tmp 56) 30 rfl _ _ _ rfl rfl H6.out ?_)
                refine C3.out.mono ?_
                rintro e w7 ⟨rfl, ha⟩
                obtain ⟨X7, h7, hs7, k7⟩ := h6.after ha
                have r7 := r6.after hs7 k7
                clear C3 ha hs7 k7
                go_wp2
                go_roundw
                case rel => exact ⟨j + 1, xs ++ bs, L + pn, f - 1 - 1, false, X7, by omega, by go_num, by go_num, by rw [← HL6.out]; omega, by rw [← HL6.out]; omega, by omega, r7, by rw [HL6.out]; exact h7⟩
                case measure => simp [intOf]; omega
              · rw [e3] at C3
                clear e3
                go_wp2_with (at_builtin; refine wpList_append_run rfl (.tmp 55) (.tmp 56) 30 rfl _ _ _ rfl rfl H6.out ?_)
                refine C3.out.mono ?_
                rintro e w7 ⟨rfl, ha⟩
                obtain ⟨X7, h7, hs7, k7⟩ := h6.after ha
                have r7 := r6.after hs7 k7
                clear C3 ha hs7 k7
                go_wp2
                go_roundw
                case rel => exact ⟨j + 1, xs ++ bs, q, f - 1, true, X7, by omega, by go_num, rfl, by rw [← HL6.out]; omega, by rw [← HL6.out]; omega, by omega, r7, h7⟩
                case measure => simp [intOf]; omega
            · rw [e2] at C2
              clear e2 hb1
              go_wp2_with fail
              refine C2.out.mono ?_
              rintro e w5 ⟨rfl, ha⟩
              obtain ⟨X5, h5, hs5, k5⟩ := h4'.after ha
              have r5 := r4.after hs5 k5
              clear C2 ha hs5 k5
              have hle : j ≤ s := by omega
              have hle' : (j : Int) ≤ (s : Int) := by omega
              have C3 := Lib.hid (h5.disk.sync (sK_ok (by rw [← HL.out]; omega) (by omega) (by omega)) ⟨#[102]⟩ (by decide))
              rw [str_f, show syncS [102] (sK xs q (100000 - xs.length) f true) = (70, sK xs q (100000 - xs.length) f true) from rfl] at C3
              go_wp2_with fail
              refine C3.out.mono ?_
              rintro e w7 ⟨rfl, ha⟩
              obtain ⟨X7, h7, hs7, k7⟩ := h5.after ha
              have r7 := r5.after hs7 k7
              clear C3 ha hs7 k7
              go_wp2
              go_roundw
              case rel => exact ⟨j + 1, xs, q, f, true, X7, by omega, by go_num, rfl, by rw [← HL.out]; omega, by rw [← HL.out]; omega, by omega, by rw [HL.out] at r7 ⊢; exact r7, h7⟩
              case measure => simp [intOf]; omega
    · have hlt' : ¬ (j : Int) < (n : Int) := by omega
      clear hlt
      have hL40 : L ≤ 40000 := by omega
      have h5 := hD.alloc (.cells #[.int .i64 k] 3)
      have r5 := hR.below ((Below.refl _ wr).alloc (Nat.le_refl _) (.cells #[.int .i64 k] 3))
      obtain ⟨m, hmd⟩ : ∃ m, m = q + min k.toNat (xs.length - q) := ⟨_, rfl⟩
      have hmq : q ≤ m := by omega
      have hmL : m ≤ L := by omega
      have C := Lib.hid (h5.disk.crash (sK_ok (by rw [← HL.out]; omega) (by omega) (by omega)) _ 1 1 [k] (ints_new wr k) (by decide) (fun b o e hx => by injection e with e; injection e with e _ _; have := hD.disk.lt hx; omega))
      rw [kp3 k (by omega) hmd] at C
      obtain ⟨A9, c9, rfl, hc9, _, _⟩ := hR.shape
      rw [← hL] at hmd hc9 ⊢
      have HM := Lib.hid hmd
      have htl : (xs.take m).length = m := by rw [List.length_take]; omega
      have HTL := Lib.hid htl
      clear hR hD hmd hL htl
      go_wp2_with fail
      refine C.out.mono ?_
      rintro e w6 ⟨rfl, ha⟩
      obtain ⟨X6, h6, hs6, k6⟩ := h5.after ha
      have r6 := r5.after hs6 k6
      clear C ha hs6 k6 h5 r5
      have C := Lib.hid (h6.disk.read (sK_ok (by rw [HTL.out]; omega) (by have := HL.out; omega) (by omega)) ⟨#[102]⟩ (by decide))
      rw [str_f, kp4] at C
      go_wp2_with fail
      refine C.out.mono ?_
      rintro e w7 ⟨v, rfl, hrow, b7⟩
      have hrow' : w7.ownsRow w6.heap.size 5 1 v (xs.take m).length ((xs.take m).map u8V) := hrow
      obtain ⟨Ay, cy, ev, hby, _⟩ := row_bytes hrow'
      rw [HTL.out] at ev hby
      subst ev
      have h7 := h6.below b7
      have r7 := r6.below b7
      obtain ⟨A8, c8, e8, hc8, hb8, _⟩ := r7.shape
      rw [← HL.out] at e8 hc8 hb8
      injection e8 with e81 _ e83
      subst e81 e83
      have S := Lib.hid (sameb_yes (c := cy) (d := c9) hby (hb8.cut hmL) (by unfold maxLen; omega))
      have HB := Lib.hid h7.old
      have hmcI : (m : Int) ≤ (c9 : Int) := by omega
      have hm0 : (0 : Int) ≤ (m : Int) := by omega
      clear C hrow hrow' b7 h6 h7 r6 r7 hb8 hby
      go_wp2_with fail
      ((with_reducible refine S.out.mono ?_))
      rintro e w8 ⟨rfl, b8⟩
      have HB8 := Lib.hid (HB.out.trans (b8.mono HB.out.size))
      have HMI := Lib.hid (show (m : Int) = (q : Int) + min (max k 0) ((L : Int) - (q : Int)) by have := HM.out; omega)
      clear b8 S
      go_wp2
      all_goals
        go_ret
        refine ⟨ret_bool ?_, HB8.out⟩
        have := HMI.out
        simp
        omega
end Go.Proofs.Ytldngpgkoohbmaa
