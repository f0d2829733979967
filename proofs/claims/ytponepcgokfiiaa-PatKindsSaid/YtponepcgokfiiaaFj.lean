/- PatKinds' walk. -/
import Derived.Test.YtponepcgokfiiaaFi
namespace Go.Proofs.Ytponepcgokfiiaa
open Go.RowKit Go.Maps

/-- Letters alone. -/
def lowB (c : UInt8) : Bool := decide (97 ≤ c.toNat ∧ c.toNat ≤ 112)
theorem low_spec {c : UInt8} (h : lowB c = true) : specX c = false ∧ c ≠ 63 ∧ c ≠ 42 ∧ c ≠ 91 ∧ c ≠ 92 := by
  have h' : 97 ≤ c.toNat ∧ c.toNat ≤ 112 := by simpa [lowB] using h
  have ne : ∀ x : UInt8, x.toNat < 97 ∨ 112 < x.toNat → c ≠ x := fun x hx e => by subst e; omega
  have n1 := ne 124 (by decide); have n2 := ne 40 (by decide); have n3 := ne 41 (by decide); have n4 := ne 42 (by decide); have n5 := ne 43 (by decide)
  have n6 := ne 63 (by decide); have n7 := ne 46 (by decide); have n8 := ne 91 (by decide); have n9 := ne 92 (by decide)
  exact ⟨by simp [specX, n1, n2, n3, n4, n5, n6, n7, n8, n9], n6, n4, n8, n9⟩
theorem low_encG : ∀ l : List UInt8, l.all lowB = true → EncG l l
  | [], _ => .nil
  | c :: l, h => by
    rw [List.all_cons, Bool.and_eq_true] at h
    exact .plain (low_spec h.1).2 (low_encG l h.2)
theorem low_encX : ∀ l : List UInt8, l.all lowB = true → EncX l l
  | [], _ => .nil
  | c :: l, h => by
    rw [List.all_cons, Bool.and_eq_true] at h
    exact .plain (low_spec h.1).1 (low_encX l h.2)
def LongC (W : World) (e : Ending) (W' : World) : Prop := e = .returned (.tuple #[.pointer none, .int .i64 2, .int .i64 0]) ∧ Below W.heap.size W W'
theorem longC_of {kind : Int} {s : ByteArray} (h1 : 1 ≤ kind) (h3 : kind ≤ 3) (hl : 256 < s.data.toList.length) (W : World) : Calls Try.prog 13 #[.int .i64 kind, .string s] W (LongC W) := by
  have hp : patP kind s.data.toList = (zeroT, 2, 0) := by
    rcases (by omega : kind = 1 ∨ kind = 2 ∨ kind = 3) with rfl | rfl | rfl
    · unfold patP exactP; rw [if_pos rfl, if_pos hl]
    · unfold patP parseG; rw [if_neg (by decide), if_pos rfl, if_pos hl]
    · unfold patP parseX treeOf; rw [if_neg (by decide), if_neg (by decide), if_pos rfl, if_pos hl]
  refine (pcomp_any kind s W).mono ?_
  rintro e W' (⟨h0, _⟩ | ⟨_, rfl, hb⟩)
  · rw [hp] at h0; exact absurd h0 (by decide)
  · rw [hp]; exact ⟨rfl, hb⟩
theorem and15 : ∀ k : Fin 256, 0 ≤ bits .and .u8 ((k.val : Nat) : Int) 15 ∧ bits .and .u8 ((k.val : Nat) : Int) 15 ≤ 15 := by decide +kernel
theorem low_of (ch : UInt8) : ∃ lo : UInt8, (97 + bits .and .u8 ((ch.toNat : Nat) : Int) 15) % 256 = ((lo.toNat : Nat) : Int) ∧ lowB lo = true := by
  have h := and15 ⟨ch.toNat, ch.toNat_lt⟩
  simp only at h
  generalize bits .and .u8 ((ch.toNat : Nat) : Int) 15 = v at h
  refine ⟨UInt8.ofNat (97 + v).toNat, ?_, ?_⟩
  · simp; omega
  · simp [lowB]; omega
theorem all_snoc {l : List UInt8} {c : UInt8} (h : l.all lowB = true) (hc : lowB c = true) : (l ++ [c]).all lowB = true := by
  rw [List.all_append, h]; simp [hc]
set_option maxHeartbeats 4000000 in
set_option maxRecDepth 100000 in
theorem patKinds_walk {w : World} {A B : Option Addr} {n m c d : Nat} {ls bs : List UInt8} (hl : BytesAt w A n ls) (hb : BytesAt w B m bs) (hn : n ≤ 140737488355328) (hm : m ≤ 140737488355328) :
    Calls Try.prog 7 #[.slice A n c, .slice B m d] w (AlivePost w) := by
  have HLS := Lib.hid hl
  have HBS := Lib.hid hb
  clear hl hb
  rcases Nat.lt_or_ge 200 m with h200 | h200
  · have h200' : (200 : Int) < (m : Int) := by omega
    go_enter Try.func7, Try.ntmps7
    go_wp2_with fail
    refine (palive_any _).mono ?_
    rintro e w1 ⟨rfl, b1⟩
    go_wp2
    go_ret
    exact ⟨rfl, b1⟩
  have h200' : decide ((200 : Int) < (m : Int)) = false := by rw [decide_eq_false_iff_not]; omega
  have h200n : decide (200 < m) = false := by rw [decide_eq_false_iff_not]; omega
  go_enter Try.func7, Try.ntmps7
  go_wp2_with fail
  refine (palive_any _).mono ?_
  rintro e w1 ⟨rfl, b1⟩
  have B1 := Lib.hid b1
  have L1 := Lib.hid (HLS.out.below b1)
  clear b1
  go_wp2_with fail
  go_loopw [5, 33] (fun q i wr => ∃ (j : Nat) (q' : ByteArray), j ≤ n ∧ i = .int .i64 (j : Nat) ∧ q = .string q' ∧ q'.data.toList.all lowB = true ∧ q'.size ≤ 300 ∧ (j ≤ 300 → q'.size ≤ j) ∧ Below w1.heap.size w1 wr) (fun _ i _ => n - (intOf i).toNat)
  case atStart => exact ⟨0, ⟨#[]⟩, Nat.zero_le _, rfl, rfl, rfl, by decide, fun _ => Nat.le_refl _, Below.refl _ _⟩
  case round =>
    obtain ⟨j, q', hj, rfl, rfl, hq, hz, hz2, hb⟩ := hrel
    by_cases hlt : j < n
    · have hlt' : (j : Int) < (n : Int) := by omega
      have hj0 : (0 : Int) ≤ (j : Int) := by omega
      have hll := L1.out.1
      obtain ⟨ch, hch⟩ : ∃ ch, ls[j]? = some ch := ⟨ls[j]'(by omega), List.getElem?_eq_getElem _⟩
      obtain ⟨b1, o1, rfl, hb1, hc1⟩ := (L1.out.below hb).2 (by omega)
      have d0 : wr.cell? ⟨b1, o1 + j, none⟩ = some (.int .u8 (ch.toNat : Nat)) := hc1 j ch hch
      have HB := Lib.hid hb
      have HQ := Lib.hid hq
      clear hc1 hch hq hb hll
      rcases Nat.lt_or_ge j 300 with h3 | h3
      · have h3' : (j : Int) < 300 := by omega
        have hzj := hz2 (by omega)
        obtain ⟨lo, hlo, hlw⟩ := low_of ch
        have hcv : (convert 38 9 (.slice (some ⟨wr.heap.size, 0, none⟩) 1 1)).run Try.prog (wr.alloc (.cells #[.int .u8 (lo.toNat : Nat)] 5)) = .ok (.string ⟨#[lo]⟩) (wr.alloc (.cells #[.int .u8 (lo.toNat : Nat)] 5)) := conv_str (bytes_new wr [lo] (0, 0)) 1
        have HB2 := Lib.hid (HB.out.alloc HB.out.size (.cells #[.int .u8 (lo.toNat : Nat)] 5))
        have HL2 := Lib.hid (all_snoc HQ.out hlw)
        have hno1 : ¬ 9223372036854775807 < q'.size + 1 := by omega
        clear hlw
        go_wp2_with fail
        go_roundw
        case rel => exact ⟨j + 1, _, by omega, by go_num, rfl, by rw [cat1]; exact HL2.out, by simp only [ByteArray.size_append]; show q'.size + 1 ≤ _; omega, fun _ => by simp only [ByteArray.size_append]; show q'.size + 1 ≤ _; omega, HB2.out⟩
        case measure => simp [intOf]; omega
      · have h3' : decide ((j : Int) < 300) = false := by rw [decide_eq_false_iff_not]; omega
        go_wp2_with fail
        go_roundw
        case rel => exact ⟨j + 1, q', by omega, by go_num, rfl, HQ.out, hz, fun h => by omega, HB.out⟩
        case measure => simp [intOf]; omega
    · have hlt' : ¬ (j : Int) < (n : Int) := by omega
      have B2 := Lib.hid (B1.out.trans (hb.mono B1.out.size))
      have H2 := Lib.hid ((HBS.out.below B1.out).below hb)
      rcases Nat.lt_or_ge 256 q'.size with hlg | hlg
      · have hlg' : (256 : Int) < (q'.size : Int) := by omega
        have C1 := fun W => Lib.hid (longC_of (kind := 1) (s := q') (by decide) (by decide) (show 256 < q'.data.toList.length from hlg) W)
        have C2 := fun W => Lib.hid (longC_of (kind := 2) (s := q') (by decide) (by decide) (show 256 < q'.data.toList.length from hlg) W)
        have C3 := fun W => Lib.hid (longC_of (kind := 3) (s := q') (by decide) (by decide) (show 256 < q'.data.toList.length from hlg) W)
        clear hq hz hb hz2
        go_wp2_with fail
        ((with_reducible refine (C1 _).out.mono ?_))
        rintro e w3 ⟨rfl, b3⟩
        have B3 := Lib.hid (B2.out.trans (b3.mono B2.out.size))
        clear b3
        go_wp2_with fail
        ((with_reducible refine (C2 _).out.mono ?_))
        rintro e w4 ⟨rfl, b4⟩
        have B4 := Lib.hid (B3.out.trans (b4.mono B3.out.size))
        clear b4
        go_wp2_with fail
        ((with_reducible refine (C3 _).out.mono ?_))
        rintro e w5 ⟨rfl, b5⟩
        have B5 := Lib.hid (B4.out.trans (b5.mono B4.out.size))
        clear b5
        go_wp2
        go_ret
        exact ⟨rfl, B5.out⟩
      have hlg' : decide ((256 : Int) < (q'.size : Int)) = false := by rw [decide_eq_false_iff_not]; omega
      have hlgn : decide (256 < q'.size) = false := by rw [decide_eq_false_iff_not]; omega
      have K1 := fun W => Lib.hid (goodC_of (kind := 1) (s := q') (l := q'.data.toList) (patP1 (by have : q'.data.toList.length = q'.size := rfl; omega)) W)
      have K2 := fun W => Lib.hid (goodC_of (kind := 2) (s := q') (l := q'.data.toList) (patP2 (low_encG _ hq) (by have : q'.data.toList.length = q'.size := rfl; omega)) W)
      have K3 := fun W => Lib.hid (goodC_of (kind := 3) (s := q') (l := q'.data.toList) (patP3 (low_encX _ hq) (by have : q'.data.toList.length = q'.size := rfl; omega)) W)
      clear hq hz hb hz2
      go_wp2_with fail
      ((with_reducible refine (K1 _).out.mono ?_))
      rintro e w3 ⟨p, X, pp, dp, rfl, hP, hx, hb3⟩
      have P3 := Lib.hid hP
      have X3 := Lib.hid hx
      have H3 := Lib.hid (H2.out.below hb3)
      have B3 := Lib.hid (B2.out.trans (hb3.mono B2.out.size))
      clear hP hx hb3
      go_wp2_with fail
      ((with_reducible refine (K2 _).out.mono ?_))
      rintro e w4 ⟨q, Y, pq, dq, rfl, hP, hx, hb4⟩
      have P4 := Lib.hid (P3.out.below hb4)
      have Q4 := Lib.hid hP
      have Y4 := Lib.hid hx
      have H4 := Lib.hid (H3.out.below hb4)
      have B4 := Lib.hid (B3.out.trans (hb4.mono B3.out.size))
      have S4 := Lib.hid hb4.size
      clear hP hx hb4
      go_wp2_with fail
      ((with_reducible refine (K3 _).out.mono ?_))
      rintro e w5 ⟨r, Z, pr, dr, rfl, hP, hx, hb5⟩
      have hxp : ∀ j, X j ∨ j = p → j < w3.heap.size := fun j hj => by
        rcases hj with hj | rfl
        · exact P3.out.old hj
        · exact P3.out.top.lt
      have hyp : ∀ j, Y j ∨ j = q → j < w4.heap.size := fun j hj => by
        rcases hj with hj | rfl
        · exact Q4.out.old hj
        · exact Q4.out.top.lt
      have T5 := Lib.hid (Three.mk (P4.out.below hb5) (Q4.out.below hb5) hP (fun j hj hk => by have := Y4.out j hj; have := hxp j hk; omega) (fun j hj hk => by have := hx j hj; have := hxp j hk; have := S4.out; omega) (fun j hj hk => by have := hx j hj; have := hyp j hk; omega))
      have H5 := Lib.hid (H4.out.below hb5)
      have B5 := Lib.hid (B4.out.trans (hb5.mono B4.out.size))
      have OX := Lib.hid (fun (hm : 0 < m) b o (e : B = some ⟨b, o, none⟩) => show ¬ (X b ∨ Y b ∨ Z b) from fun h => by
        obtain ⟨b', o', e', hl, _⟩ := HBS.out.2 hm
        rw [e] at e'
        have e' := Option.some.inj e'
        injection e' with e1 _ _
        subst e1
        have q1 := B2.out.size; have q2 := B3.out.size; have q3 := B4.out.size
        rcases h with h | h | h
        · have := X3.out b (.inl h); omega
        · have := Y4.out b (.inl h); omega
        · have := hx b (.inl h); omega)
      have OP := Lib.hid (show (∀ j, j = pp → w.heap.size ≤ j) ∧ (∀ j, j = pq → w.heap.size ≤ j) ∧ (∀ j, j = pr → w.heap.size ≤ j) from by
        have q1 := B2.out.size; have q2 := B3.out.size; have q3 := B4.out.size
        refine ⟨fun j e => ?_, fun j e => ?_, fun j e => ?_⟩
        · have := X3.out pp (.inl P3.out.in_); omega
        · have := Y4.out pq (.inl Q4.out.in_); omega
        · have := hx pr (.inl hP.in_); omega)
      clear hP hx hb5 hxp hyp
      go_wp2_with fail
      refine (pfind_any T5.out.one H5.out (fun hm b o e hb => OX.out hm b o e (.inl hb)) (by omega)).mono ?_
      rintro e w6 ⟨a1, z1, k1, rfl, hf1, hP1, hk1⟩
      have F1 := Lib.hid hf1
      have T6 := Lib.hid (T5.out.p1 hP1 hk1)
      have H6 := Lib.hid (BytesAt.keep (w' := w6) H5.out (fun hm b o e hl => hk1.block b hl (fun hb => OX.out hm b o e (.inl (hb ▸ T5.out.one.in_)))) hk1.size)
      have B6 := Lib.hid (B5.out.trans (hk1.below B5.out.size OP.out.1))
      clear hf1 hP1 hk1
      go_wp2_with fail
      refine (pfind_any T6.out.two H6.out (fun hm b o e hb => OX.out hm b o e (.inr (.inl hb))) (by omega)).mono ?_
      rintro e w7 ⟨a2, z2, k2, rfl, hf2, hP2, hk2⟩
      obtain ⟨rfl, rfl, rfl⟩ := same_find T5.out.one.good T5.out.two.good F1.out hf2
      have T7 := Lib.hid (T6.out.p2 hP2 hk2)
      have H7 := Lib.hid (BytesAt.keep (w' := w7) H6.out (fun hm b o e hl => hk2.block b hl (fun hb => OX.out hm b o e (.inr (.inl (hb ▸ T5.out.two.in_))))) hk2.size)
      have B7 := Lib.hid (B6.out.trans (hk2.below B6.out.size OP.out.2.1))
      clear hf2 hP2 hk2
      go_wp2_with fail
      refine (pfind_any T7.out.three H7.out (fun hm b o e hb => OX.out hm b o e (.inr (.inr hb))) (by omega)).mono ?_
      rintro e w8 ⟨a3, z3, k3, rfl, hf3, hP3, hk3⟩
      obtain ⟨rfl, rfl, rfl⟩ := same_find T5.out.one.good T5.out.three.good F1.out hf3
      have H8 := Lib.hid (BytesAt.keep (w' := w8) H7.out (fun hm b o e hl => hk3.block b hl (fun hb => OX.out hm b o e (.inr (.inr (hb ▸ T5.out.three.in_))))) hk3.size)
      have B8 := Lib.hid (B7.out.trans (hk3.below B7.out.size OP.out.2.2))
      clear hf3 hP3 hk3
      rcases k1 with _ | _
      all_goals
        go_wp2
        go_ret
        exact ⟨ret_bool (by simp), B8.out⟩
end Go.Proofs.Ytponepcgokfiiaa
