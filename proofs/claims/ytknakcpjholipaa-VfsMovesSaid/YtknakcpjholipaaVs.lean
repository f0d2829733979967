/- VfsMoves answers true. -/
import Derived.Test.YtknakcpjholipaaVr
namespace Go.Proofs.Ytknakcpjholipaa
open Go.RowKit Go.Maps Go.Sort

theorem sa : (⟨#[97]⟩ : ByteArray).data.toList = [97] := rfl
theorem sb : (⟨#[98]⟩ : ByteArray).data.toList = [98] := rfl
theorem sc : (⟨#[99]⟩ : ByteArray).data.toList = [99] := rfl
set_option maxHeartbeats 8000000 in
set_option maxRecDepth 100000 in
theorem vfsMoves_walk (A1 A2 A3 : Option Addr) (n1 c1 n2 c2 n3 c3 : Nat) (xs ys ms : List UInt8) (k : Int) (w : World) (hx : BytesAt w A1 n1 xs) (hy : BytesAt w A2 n2 ys) (hm : BytesAt w A3 n3 ms) (hn1 : n1 ≤ 140737488355328) (hn2 : n2 ≤ 140737488355328) (hn3 : n3 ≤ 140737488355328) :
    Calls Try.prog 6 #[.slice A1 n1 c1, .slice A2 n2 c2, .slice A3 n3 c3, .int .i64 k] w fun e w' => e = .returned (.bool true) ∧ Below w.heap.size w w' := by
  have hxl := hx.1
  have hyl := hy.1
  have hml := hm.1
  have HX := Lib.hid hx
  have HY := Lib.hid hy
  have HM := Lib.hid hm
  have NDP := Lib.hid (fun (A : Option Addr) (n : Nat) (zs : List UInt8) (W : World) (dp : Nat) (X : Nat → Prop) (s : Sta) (hb : BytesAt w A n zs) (hD : DB w W dp X s) (hn0 : 0 < n) (b o : Nat) (e : A = some ⟨b, o, none⟩) => show b ≠ dp by
    obtain ⟨b', o', e', hlt, _⟩ := hb.2 hn0
    rw [e] at e'
    injection e' with e'
    injection e' with e' _ _
    have := hD.at_.1
    omega)
  clear hx hy hm
  by_cases hbig : 5000 < n1 + n2 + n3
  · have hbig' : (5000 : Int) < (n1 : Int) + (n2 : Int) + (n3 : Int) := by omega
    clear hxl hyl hml
    go_enter Try.func6, Try.ntmps6
    go_wp2_with fail
    refine (new_disk 1048576 _).mono ?_
    rintro e w1 ⟨dp, X1, rfl, h1⟩
    go_wp2_with fail
    refine (alive_any _).mono ?_
    rintro e w2 ⟨rfl, b2⟩
    have h2 := (h1.below b2).old
    go_wp2
    go_ret
    exact ⟨rfl, h2⟩
  · have hsm : n1 + n2 + n3 ≤ 5000 := by omega
    have hbig' : ¬ (5000 : Int) < (n1 : Int) + (n2 : Int) + (n3 : Int) := by omega
    clear hn1 hn2 hn3 hbig
    go_enter Try.func6, Try.ntmps6
    go_wp2_with fail
    refine (new_disk 1048576 _).mono ?_
    rintro e w1 ⟨dp, X1, rfl, h1⟩
    rw [show posP 1048576 = 1048576 from rfl] at h1
    go_wp2_with fail
    refine (alive_any _).mono ?_
    rintro e w2 ⟨rfl, b2⟩
    have h2 := h1.below b2
    have C := Lib.hid (h2.disk.create ⟨by decide, by decide, by decide, by decide, by simp⟩ ⟨#[97]⟩ (by decide))
    rw [sa, mv0] at C
    clear h1 b2
    go_wp2_with fail
    refine C.out.mono ?_
    rintro e w3 ⟨rfl, ha⟩
    obtain ⟨X3, h3, _, _⟩ := h2.after ha
    clear C ha h2
    have C := Lib.hid (h3.disk.create ⟨by decide, by decide, by decide, by decide, by decide⟩ ⟨#[98]⟩ (by decide))
    rw [sb, mv1] at C
    go_wp2_with fail
    refine C.out.mono ?_
    rintro e w4 ⟨rfl, ha⟩
    obtain ⟨X4, h4, _, _⟩ := h3.after ha
    clear C ha h3
    have C := Lib.hid (h4.disk.append (c := c1) (sA_ok (by decide) (by decide)) ⟨#[97]⟩ (by decide) (HX.out.up (fun b hb => h4.old.block b hb) h4.old.size) (NDP.out _ _ _ _ _ _ _ HX.out h4) (by omega))
    rw [sa, mv2 (by omega)] at C
    go_wp2_with fail
    refine C.out.mono ?_
    rintro e w5 ⟨rfl, ha⟩
    obtain ⟨X5, h5, _, _⟩ := h4.after ha
    rw [List.nil_append] at h5
    clear C ha h4
    have C := Lib.hid (h5.disk.append (c := c2) (sA_ok (by simp; omega) (by omega)) ⟨#[98]⟩ (by decide) (HY.out.up (fun b hb => h5.old.block b hb) h5.old.size) (NDP.out _ _ _ _ _ _ _ HY.out h5) (by omega))
    rw [sb, mv3 (by omega)] at C
    go_wp2_with fail
    refine C.out.mono ?_
    rintro e w6 ⟨rfl, ha⟩
    obtain ⟨X6, h6, _, _⟩ := h5.after ha
    clear C ha h5
    have C := Lib.hid (h6.disk.sync (sA_ok (by omega) (by omega)) ⟨#[97]⟩ (by decide))
    rw [sa, mv4] at C
    go_wp2_with fail
    refine C.out.mono ?_
    rintro e w7 ⟨rfl, ha⟩
    obtain ⟨X7, h7, _, _⟩ := h6.after ha
    clear C ha h6
    have C := Lib.hid (h7.disk.append (c := c3) (sA_ok (by omega) (by omega)) ⟨#[97]⟩ (by decide) (HM.out.up (fun b hb => h7.old.block b hb) h7.old.size) (NDP.out _ _ _ _ _ _ _ HM.out h7) (by omega))
    rw [sa, mv2 (by omega)] at C
    go_wp2_with fail
    refine C.out.mono ?_
    rintro e w8 ⟨rfl, ha⟩
    obtain ⟨X8, h8, _, _⟩ := h7.after ha
    clear C ha h7
    have hlx : (xs ++ ms).length = n1 + n3 := by rw [List.length_append, hxl, hml]
    have C := Lib.hid (h8.disk.rename (sA_ok (by omega) (by omega)) ⟨#[97]⟩ ⟨#[97]⟩ (by decide) (by decide))
    rw [sa, mv6] at C
    go_wp2_with fail
    refine C.out.mono ?_
    rintro e w9 ⟨rfl, ha⟩
    obtain ⟨X9, h9, _, _⟩ := h8.after ha
    clear C ha h8
    have C := Lib.hid (h9.disk.rename (sA_ok (by omega) (by omega)) ⟨#[97]⟩ ⟨#[98]⟩ (by decide) (by decide))
    rw [sa, sb, mv7] at C
    go_wp2_with fail
    refine C.out.mono ?_
    rintro e w10 ⟨rfl, ha⟩
    obtain ⟨X10, h10, _, _⟩ := h9.after ha
    obtain ⟨fr, hfr⟩ : ∃ fr, fr = 1048576 - n1 - n3 := ⟨_, rfl⟩
    have efr : 1048576 - xs.length - ys.length - ms.length + ys.length = fr := by omega
    rw [efr, hxl] at h10
    clear C ha h9 efr
    have hokB : Ok (sB (xs ++ ms) n1 fr) := sB_ok (by omega) (by omega)
    have HOK := Lib.hid (fun (m : Nat) (hm : m ≤ n1 + n3) => (sB_ok (by rw [List.length_take]; omega) (by omega) : Ok (sB ((xs ++ ms).take m) m (fr + (n1 + n3 - m)))))
    have HFR := Lib.hid (fun (m : Nat) (hm : m ≤ n1 + n3) => show ((fr + (n1 + n3 - m) : Nat) : Int) = 1048576 - (m : Int) by omega)
    have HTL := Lib.hid (fun (m : Nat) (hm : m ≤ n1 + n3) => show ((xs ++ ms).take m).length = m by rw [List.length_take, hlx]; omega)
    have C := Lib.hid (h10.disk.rename hokB ⟨#[97]⟩ ⟨#[99]⟩ (by decide) (by decide))
    rw [sa, sc, mv8] at C
    go_wp2_with fail
    refine C.out.mono ?_
    rintro e w11 ⟨rfl, ha⟩
    obtain ⟨X11, h11, _, _⟩ := h10.after ha
    clear C ha h10
    have C := Lib.hid (h11.disk.names hokB)
    go_wp2_with fail
    refine C.out.mono ?_
    rintro e w12 ⟨v, rfl, hrow, b12⟩
    obtain ⟨A7, c7, rfl, _⟩ := row_open hrow
    have h12 := h11.below b12
    clear C h11 b12 hrow
    rw [show ((sB (xs ++ ms) n1 fr).V.map fun t => t.1).length = 1 from rfl]
    have R0 : (w12.alloc (.cells #[] 5)).ownsRow 0 5 1 (.slice (some ⟨w12.heap.size, 0, none⟩) 0 0) ([] : List UInt8).length (([] : List UInt8).map u8V) :=
      ⟨rfl, .inr ⟨w12.heap.size, 0, #[], rfl, Nat.zero_le _, heap_alloc_new w12 _, Nat.le_refl _, Nat.zero_le _, rfl, rfl⟩⟩
    have h13 := h12.alloc (.cells #[] 5)
    have s13 : w12.heap.size < (w12.alloc (.cells #[] 5)).heap.size := by simp
    obtain ⟨A8, c8, w14, hrun1, ho1, hg1, hat1⟩ := append_bytes (c := c1) 30 R0 (HX.out.up (fun b hb => h13.old.block b hb) h13.old.size) (by simp; omega)
    rw [List.nil_append, show ([] : List UInt8).length + n1 = n1 from Nat.zero_add _] at *
    have hb1 : ∀ r, (Value.slice A8 n1 c8).ownBlock = some r → w12.heap.size ≤ r := fun r hr => by
      rcases hat1 with h1 | h1
      · rw [h1] at hr
        have : w12.heap.size = r := by simpa [Value.ownBlock] using hr
        omega
      · rw [h1] at hr; injection hr with hr; omega
    have bl14 : Below w12.heap.size w12 w14 := ((Below.refl w12.heap.size w12).alloc (Nat.le_refl _) _).grown hg1 (by simp) (fun j hj => by
      have : w12.heap.size = j := by simpa [Value.ownBlock] using hj
      omega)
    have h14 := h12.below bl14
    have hm14 := HM.out.up (fun b hb => h14.old.block b hb) h14.old.size
    obtain ⟨A9, c9, w15, hrun2, ho2, hg2, hat2⟩ := append_bytes (c := c3) 30 (by rw [hxl]; rw [hxl] at ho1; exact ho1) hm14 (by omega)
    rw [hxl] at hrun2 ho2 hat2
    have hb2 : ∀ r, (Value.slice A9 (n1 + n3) c9).ownBlock = some r → w12.heap.size ≤ r := fun r hr => by
      rcases hat2 with h1 | h1
      · rw [h1] at hr; exact hb1 r hr
      · rw [h1] at hr; injection hr with hr; have := bl14.size; omega
    have bl15 : Below w12.heap.size w12 w15 := bl14.grown hg2 bl14.size (fun j hj => hb1 j hj)
    have h15 := h12.below bl15
    have s15 := bl15.size
    obtain ⟨Aa, ca, ea, hba, hbb⟩ := row_bytes (row_at ho2 hb2)
    rw [hlx] at ea hba
    obtain ⟨Ab, cb, eb, hncap, hcapm⟩ := row_shape ho2
    rw [hlx] at eb hncap
    simp only [Value.slice.injEq] at ea eb
    obtain ⟨rfl, _, rfl⟩ := ea
    obtain ⟨rfl, _, rfl⟩ := eb
    have R1 := Lib.hid hrun1
    have R2 := Lib.hid hrun2
    have hlt12 := fun j (hj : X11 j) => h12.disk.lt hj
    have HB := Lib.hid hba
    have HBB := Lib.hid hbb
    have HLT := Lib.hid hlt12
    have C := Lib.hid (h15.disk.read hokB ⟨#[98]⟩ (by decide))
    rw [sb, mv9] at C
    clear hrun1 hrun2 ho1 ho2 hg1 hg2 hat1 hat2 hb1 hb2 bl14 bl15 h12 h13 h14 hm14 R0 s13 hba hbb hlt12
    go_wp2_with (first
      | (at_builtin; refine wpList_append_run rfl (.tmp 82) (.tmp 83) 30 rfl _ _ _ rfl rfl R1.out ?_)
      | (at_builtin; refine wpList_append_run rfl (.tmp 84) (.tmp 85) 30 rfl _ _ _ rfl rfl R2.out ?_))
    refine C.out.mono ?_
    rintro e w16 ⟨v, rfl, hrowx, b16⟩
    have hrowx' : w16.ownsRow w15.heap.size 5 1 v (xs ++ ms).length ((xs ++ ms).map u8V) := hrowx
    obtain ⟨Ax, cx, ev, hbx, hbxb⟩ := row_bytes hrowx'
    rw [hlx] at ev hbx
    subst ev
    clear hrowx'
    have h16 := h15.below b16
    have HB16 := Lib.hid (HB.out.below b16)
    have HBX := Lib.hid hbx
    have HBXB := Lib.hid hbxb
    clear C hrowx h15 b16 HB hbx hbxb
    have h17 := h16.alloc (.cells #[.int .i64 k] 3)
    obtain ⟨m, hmd⟩ : ∃ m, m = n1 + min k.toNat ((xs ++ ms).length - n1) := ⟨_, rfl⟩
    have hmle : m ≤ n1 + n3 := by
      have := Nat.min_le_right k.toNat ((xs ++ ms).length - n1)
      omega
    have C := Lib.hid (h17.disk.crash hokB _ 1 1 [k] (ints_new w16 k) (by decide) (fun b o e hx => by injection e with e; injection e with e _ _; have := h16.disk.lt hx; omega))
    rw [mv10 k (by omega) hmd, hlx] at C
    go_wp2_with fail
    refine C.out.mono ?_
    rintro e w18 ⟨rfl, ha⟩
    obtain ⟨X18, h18, _, kp⟩ := h17.after ha
    have HB18 := Lib.hid ((HB16.out.below ((Below.refl _ w16).alloc (Nat.le_refl _) (.cells #[.int .i64 k] 3))).kept kp (fun b o e hX => by have h1 := HLT.out b hX; have h2 := HBB.out b o e; omega))
    have HBX18 := Lib.hid ((HBX.out.below ((Below.refl _ w16).alloc (Nat.le_refl _) (.cells #[.int .i64 k] 3))).kept kp (fun b o e hX => by have h1 := HLT.out b hX; have h2 := HBXB.out b o e; omega))
    clear C ha h16 h17 kp HB16 HBX
    have htl := HTL.out m hmle
    have C := Lib.hid (h18.disk.read (HOK.out m hmle) ⟨#[98]⟩ (by decide))
    rw [sb, mv9] at C
    go_wp2_with fail
    refine C.out.mono ?_
    rintro e w19 ⟨v, rfl, hrowy, b19⟩
    have hrowy' : w19.ownsRow w18.heap.size 5 1 v ((xs ++ ms).take m).length (((xs ++ ms).take m).map u8V) := hrowy
    obtain ⟨Ay, cy, ev, hby, _⟩ := row_bytes hrowy'
    rw [htl] at ev hby
    subst ev
    clear hrowy'
    have h19 := h18.below b19
    have HB19 := Lib.hid (HB18.out.below b19)
    have HBX19 := Lib.hid (HBX18.out.below b19)
    have HBY := Lib.hid hby
    clear C hrowy h18 b19 HB18 HBX18 hby
    have hmI : (n1 : Int) + min (max k 0) (n3 : Int) = (m : Int) := by
      rw [hmd, hlx]; omega
    have hmw : IntKind.i64.wrap ((n1 : Int) + min (max k 0) (n3 : Int)) = (m : Int) := by rw [hmI]; exact IntWalk.i64_in _ (by omega)
    have S1 := Lib.hid (sameb_yes (c := cx) (d := c9) HBX19.out HB19.out (by unfold maxLen; omega))
    clear hmd
    have hmcap : m ≤ c9 := Nat.le_trans hmle hncap
    have hmcapI : (m : Int) ≤ (c9 : Int) := by omega
    have hm0 : (0 : Int) ≤ (m : Int) := by omega
    go_wp2_with fail
    ((with_reducible refine S1.out.mono ?_))
    rintro e w20 ⟨rfl, b20⟩
    have h20 := h19.below b20
    have S2 := Lib.hid (sameb_yes (c := cy) (d := c9) (HBY.out.below b20) ((HB19.out.below b20).cut hmle) (by unfold maxLen; omega))
    clear S1 b20 h19
    go_wp2_with fail
    ((with_reducible refine S2.out.mono ?_))
    rintro e w21 ⟨rfl, b21⟩
    have h21 := h20.below b21
    have C := Lib.hid h21.disk.room
    rw [show (((sB ((xs ++ ms).take m) m (fr + (n1 + n3 - m))).free : Nat) : Int) = 1048576 - (m : Int) from HFR.out m hmle] at C
    have hsw : IntKind.i64.wrap (1048576 - (m : Int)) = 1048576 - (m : Int) := IntWalk.i64_in _ (by omega)
    have HO := Lib.hid h21.old
    clear S2 b21 h20 h21
    go_wp2_with fail
    ((with_reducible refine C.out.mono ?_))
    rintro e w22 ⟨rfl, rfl⟩
    go_wp2
    go_ret
    exact ⟨rfl, HO.out⟩
end Go.Proofs.Ytknakcpjholipaa
