/- BufPlays answers true. -/
import Derived.Test.YtmcapiikplflkaaBn
import Derived.Test.YtmcapiikplflkaaLo
namespace Go.Proofs.Ytmcapiikplflkaa
open Go.RowKit Go.Maps

/-- A buffer and the document's own beside it. -/
structure St (w V : World) (bp mp : Nat) (X : Nat → Prop) (A : Option Addr) (c : Nat) (bs : List UInt8) (most g : Nat) : Prop where
  b : BS w V bp X bs most (g : Nat)
  m : Blk V mp 85 #[.int .i64 (most : Nat), .slice A bs.length c, .int .i64 (g : Nat)]
  row : RowAt V A bs.length c bs
  far : ∀ j, InB A j → ¬ X j ∧ w.heap.size ≤ j ∧ j ≠ mp
  mp_ : w.heap.size ≤ mp ∧ ¬ X mp
section
variable {w V V' : World} {bp mp : Nat} {X Z : Nat → Prop} {A : Option Addr} {c most g : Nat} {bs : List UInt8}
theorem St.kept (h : St w V bp mp X A c bs most g) (hk : Kept Z V V') (hZ : ∀ j, Z j → ¬ X j ∧ ¬ InB A j ∧ j ≠ mp ∧ w.heap.size ≤ j) : St w V' bp mp X A c bs most g :=
  ⟨h.b.kept hk (fun j hj hz => (hZ j hz).1 hj) (fun j hz => (hZ j hz).2.2.2), (hk.block mp h.m.lt (fun hz => (hZ mp hz).2.2.1 rfl)).trans h.m, h.row.kept hk (fun j hj hz => (hZ j hz).2.1 hj), h.far, h.mp_⟩
theorem St.below (h : St w V bp mp X A c bs most g) (hb : Below V.heap.size V V') : St w V' bp mp X A c bs most g := h.kept (kept_below (X := fun _ => False) hb) (fun _ h => False.elim h)
/-- What is new is apart. -/
theorem St.new (h : St w V bp mp X A c bs most g) {j : Nat} (hj : V.heap.size ≤ j) : ¬ X j ∧ ¬ InB A j ∧ j ≠ mp ∧ w.heap.size ≤ j := by
  have hm := h.m.lt
  have ho := h.b.old.size
  exact ⟨fun hx => by have := (h.b.inn j hx).1; omega, fun hx => by have := h.row.lt hx; omega, by omega, by omega⟩
end
/-- A byte written into a row. -/
theorem RowAt.store {w : World} {g o n c : Nat} {bs : List UInt8} (h : RowAt w (some ⟨g, o, none⟩) n c bs) {i : Nat} (hi : i < n) (z : UInt8) : RowAt (w.setCell ⟨g, o + i, none⟩ (u8V z)) (some ⟨g, o, none⟩) n c (bs.set i z) := by
  rcases h.cells with ⟨e, _⟩ | ⟨g', o', e, hg, hc, hf⟩
  · cases e
  · injection e with e
    injection e with e1 e2 _
    subst e1 e2
    have hle := h.le
    have hl := h.len
    have hin : (w.cell? ⟨g, o + i, none⟩).isSome = true := (hf i (by omega)).1
    have other : ∀ k, k ≠ i → (w.setCell ⟨g, o + i, none⟩ (u8V z)).cell? ⟨g, o + k, none⟩ = w.cell? ⟨g, o + k, none⟩ := fun k hk => by
      apply World.cell?_setCell_other
      intro e
      injection e with _ e _
      omega
    have same : (w.setCell ⟨g, o + i, none⟩ (u8V z)).cell? ⟨g, o + i, none⟩ = some (u8V z) := by
      obtain ⟨u, hu⟩ := Option.isSome_iff_exists.1 hin
      apply World.cell?_setCell_same (u := u)
      exact hu
    refine ⟨by rw [List.length_set]; exact hl, hle, h.max, .inr ⟨g, o, rfl, by simpa [World.setCell] using hg, fun k u hk => ?_, fun k hk => ⟨?_, ?_⟩⟩⟩
    · by_cases e : k = i
      · subst e
        rw [same]
        rw [List.getElem?_set_self (by omega)] at hk
        injection hk with hk
        rw [hk]
      · rw [other k e]
        rw [List.getElem?_set_ne (fun e2 => e e2.symm)] at hk
        exact hc k u hk
    · by_cases e : k = i
      · subst e; rw [same]; rfl
      · rw [other k e]; exact (hf k hk).1
    · rw [World.frozen?_setCell]; exact (hf k hk).2
theorem RowAt.at_ {w : World} {g o n c : Nat} {bs : List UInt8} (h : RowAt w (some ⟨g, o, none⟩) n c bs) {i : Nat} (hi : i < n) : ∃ u, w.cell? ⟨g, o + i, none⟩ = some u ∧ w.frozen? ⟨g, o + i, none⟩ = false := by
  rcases h.cells with ⟨e, _⟩ | ⟨g', o', e, hg, hc, hf⟩
  · cases e
  · injection e with e
    injection e with e1 e2 _
    subst e1 e2
    have := hf i (by have := h.le; omega)
    obtain ⟨u, hu⟩ := Option.isSome_iff_exists.1 this.1
    exact ⟨u, hu, this.2⟩
/-- A row in which bytes are overwritten. -/
def WInv (V0 : World) (A2 : Option Addr) (t c2 : Nat) (i : Value) (V : World) : Prop := ∃ (j : Nat) (zs : List UInt8), j ≤ t ∧ i = .int .i64 (j : Nat) ∧ RowAt V A2 t c2 zs ∧ Kept (InB A2) V0 V
def PInv (w : World) (bp mp n most : Nat) (u i : Value) (V : World) : Prop := ∃ (j used g c : Nat) (X : Nat → Prop) (A : Option Addr) (bs : List UInt8), j ≤ n ∧ i = .int .i64 (j : Nat) ∧ u = .int .i64 (used : Nat) ∧ used ≤ 20000 ∧ g ≤ used ∧ St w V bp mp X A c bs most g
theorem St.put_ {w V : World} {bp mp : Nat} {X : Nat → Prop} {A : Option Addr} {c most g : Nat} {bs : List UInt8} {a b d : Value} (h : BS w V bp X bs most (g : Nat)) (hm : Blk V mp 85 #[a, b, d]) (hmp : w.heap.size ≤ mp ∧ ¬ X mp) (hr : RowAt V A bs.length c bs) (hA : ∀ j, InB A j → ¬ X j ∧ w.heap.size ≤ j ∧ j ≠ mp) :
    St w (((V.setCell ⟨mp, 0, none⟩ (.int .i64 (most : Nat))).setCell ⟨mp, 1, none⟩ (.slice A bs.length c)).setCell ⟨mp, 2, none⟩ (.int .i64 (g : Nat))) bp mp X A c bs most g := by
  have hk : Kept (fun j => j = mp) V (((V.setCell ⟨mp, 0, none⟩ (.int .i64 (most : Nat))).setCell ⟨mp, 1, none⟩ (.slice A bs.length c)).setCell ⟨mp, 2, none⟩ (.int .i64 (g : Nat))) :=
    (((Kept.refl (fun j => j = mp) V).set_ (p := ⟨mp, 0, none⟩) (.inl rfl) _).set_ (p := ⟨mp, 1, none⟩) (.inl rfl) _).set_ (p := ⟨mp, 2, none⟩) (.inl rfl) _
  exact ⟨h.kept hk (fun j hj e => hmp.2 (e ▸ hj)) (fun j e => e ▸ hmp.1), ((((hm.set_ 0 _).set_ 1 _).set_ 2 _) : Blk _ _ _ _), hr.kept hk (fun j hj e => (hA j hj).2.2 e), hA, hmp⟩
set_option maxHeartbeats 8000000 in
set_option maxRecDepth 100000 in
theorem bufPlays_walk (k : Int) (A : Option Addr) (n c : Nat) (os : List BOp) (w : World) (hO : BOpsAt w A n os) (hn : n ≤ maxLen) :
    Calls Try.prog 9 #[.int .i64 k, .slice A n c] w fun e w' => e = .returned (.bool true) ∧ Below w.heap.size w w' := by
  have HO := Lib.hid hO
  unfold maxLen at hn
  obtain ⟨most, hmo⟩ : ∃ most, most = mostOf k := ⟨_, rfl⟩
  have C0 := Lib.hid (bs_new (w0 := w) k w (Below.refl _ _))
  have C1 := Lib.hid (fun V => rbnew_any k V)
  rw [← hmo] at C0 C1
  clear hO hmo
  go_enter Try.func9, Try.ntmps9
  go_wp2_with fail
  refine C0.out.mono ?_
  rintro e w1 ⟨rfl, h1, -, -⟩
  clear C0
  go_wp2_with fail
  refine (balive_any _).mono ?_
  rintro e w2 ⟨rfl, b2⟩
  have h2 := h1.below b2
  clear h1 b2
  go_wp2_with fail
  refine (C1.out _).mono ?_
  rintro e w3 ⟨rfl, b3⟩
  have h3 := h2.below b3
  clear h2 b3
  have HP0 := Lib.hid (show PInv w w.heap.size w3.heap.size n most (.int .i64 0) (.int .i64 0) (w3.alloc (.cells #[.int .i64 (most : Nat), .slice none 0 0, .int .i64 0] 85)) from by
    have hs := h3.old.size
    exact ⟨0, 0, 0, 0, _, none, [], Nat.zero_le _, rfl, rfl, Nat.zero_le _, Nat.le_refl _, h3.below ((Below.refl _ w3).alloc (Nat.le_refl _) _), Blk.new w3 _ _, RowAt.nil _, (fun j hj => by obtain ⟨o, e⟩ := hj; cases e), hs, fun hx => by have := (h3.inn _ hx).1; omega⟩)
  clear h3 C1
  go_wp2_with fail
  go_loopw [7, 31] (fun u i wr => PInv w w.heap.size w3.heap.size n most u i wr) (fun _ i _ => n - (intOf i).toNat)
  case atStart => exact HP0.out
  case round =>
    clear HP0
    obtain ⟨j, used, g, c', X, A', bs, hj, rfl, rfl, hu, hgu, h⟩ := hrel
    by_cases hlt : j < n
    · have hlt' : (j : Int) < (n : Int) := by omega
      obtain ⟨pb, po, rfl, hpb, hpc⟩ := HO.out.2.2 (by omega)
      obtain ⟨p, hpj⟩ : ∃ p, os[j]? = some p := ⟨os[j]'(by have := HO.out.1; omega), List.getElem?_eq_getElem _⟩
      obtain ⟨hpB, hpm, hpd, hpw⟩ := HO.out.2.1 p (List.mem_of_getElem? hpj)
      obtain ⟨y0, y1, y2⟩ := hpc j p hpj
      rw [← h.b.old.cell (p := ⟨pb, po + j * 3, none⟩) hpb] at y0
      rw [← h.b.old.cell (p := ⟨pb, po + j * 3 + 1, none⟩) hpb] at y1
      rw [← h.b.old.cell (p := ⟨pb, po + j * 3 + 2, none⟩) hpb] at y2
      clear hpc hpj
      obtain ⟨kd, nm, pA, pn, pc, xs⟩ := p
      simp only at hpB hpm hpd hpw y0 y1 y2
      have HPB := Lib.hid hpB
      clear hpB
      by_cases hbig : 20000 < used + (pn + 1)
      · have hbig' : (20000 : Int) < (used : Int) + ((pn : Int) + 1) := by omega
        have HB := Lib.hid ((h.b.below ((Below.refl _ wr).alloc (Nat.le_refl _) (.cells #[.int .i64 kd, .int .i64 nm, .slice pA pn pc] 88))).old)
        clear h
        go_wp2
        go_ret
        exact ⟨rfl, HB.out⟩
      · have hbig' : ¬ (20000 : Int) < (used : Int) + ((pn : Int) + 1) := by omega
        have hbigb : decide ((20000 : Int) < (used : Int) + ((pn : Int) + 1)) = false := decide_eq_false hbig'
        have hXo : ¬ X wr.heap.size := fun hx => by have := (h.b.inn _ hx).1; omega
        have OB := Lib.hid (Blk.new wr 88 #[.int .i64 kd, .int .i64 nm, .slice pA pn pc])
        have h' := h.below ((Below.refl _ wr).alloc (Nat.le_refl _) (.cells #[.int .i64 kd, .int .i64 nm, .slice pA pn pc] 88))
        clear h
        by_cases hk1 : kd = 1
        · subst hk1
          have hxb := HPB.out.up (fun b hb => h'.b.old.block b hb) h'.b.old.size
          have hbz := h'.b.size
          obtain ⟨Lb, hLb⟩ : ∃ Lb, Lb = bs.length := ⟨_, rfl⟩
          rw [← hLb] at hbz
          have hpl := HPB.out.1
          obtain ⟨q, hq⟩ : ∃ q, q = goneBy bs xs most := ⟨_, rfl⟩
          have hq2 : Lb + pn - most = q := by rw [hq, hLb]; unfold goneBy; rw [List.length_append, hpl]
          have hqp : q ≤ pn := by omega
          have C := h'.b.put (d := pc) hxb hpm hpd (by omega) (by omega) (by omega)
          obtain ⟨G, hG⟩ : ∃ G, G = g + q := ⟨_, rfl⟩
          have hgG : G ≤ used + (pn + 1) := by omega
          have hgq : ((g : Nat) : Int) + ((q : Nat) : Int) = (G : Int) := by omega
          obtain ⟨bz, hbs⟩ : ∃ bz, bz = (bs ++ xs).drop q := ⟨_, rfl⟩
          rw [← hq, hgq, ← hbs] at C
          have C := Lib.hid C
          obtain ⟨L2, hL2⟩ : ∃ L2, L2 = bz.length := ⟨_, rfl⟩
          have hL3 : (bs ++ xs).length - q = L2 := by rw [hL2, hbs, List.length_drop]
          have HT := Lib.hid h'
          have HLB := Lib.hid hLb
          have HQ2 := Lib.hid hq2
          have HGQ := Lib.hid hgq
          have HBS := Lib.hid hbs
          have HL2 := Lib.hid hL2
          have HL3 := Lib.hid hL3
          clear h' hxb hLb hpl hq hq2 hgq hbs hL2 hL3 hG
          go_wp2_with fail
          ((with_reducible refine C.out.mono ?_))
          rintro e V5 ⟨rfl, X5, h5, hk5, hs5⟩
          have m5 : Blk V5 w3.heap.size 85 #[.int .i64 (most : Nat), .slice A' bs.length c', .int .i64 (g : Nat)] := (hk5.block _ HT.out.m.lt HT.out.mp_.2).trans HT.out.m
          have r5 := HT.out.row.kept hk5 (fun j hj => (HT.out.far j hj).1)
          rw [← HLB.out] at m5 r5
          have hmx : ¬ X5 w3.heap.size := fun hx => by
            rcases hs5 _ hx with h | h
            · exact HT.out.mp_.2 h
            · have := HT.out.m.lt; omega
          have hml := HT.out.mp_.1
          have ob5 : Blk V5 wr.heap.size 88 _ := (hk5.block _ OB.out.lt hXo).trans OB.out
          obtain ⟨o0, o1, o2, -, -, -⟩ := blk3 ob5
          obtain ⟨q0, q1, q2, z0, z1, z2⟩ := blk3 m5
          have C2 := rbput_any (d := pc) (most := most) (gone := ((g : Nat) : Int)) r5 (HPB.out.up (fun b hb => h5.old.block b hb) h5.old.size) (by omega) (by omega) (by omega) (by omega) (by omega)
          rw [HQ2.out, HGQ.out, HL3.out, ← HBS.out] at C2
          have C2 := Lib.hid C2
          have H5 := Lib.hid h5
          have HM5 := Lib.hid m5
          have HMX := Lib.hid hmx
          clear h5 hk5 hs5 m5 r5 hmx C ob5
          go_wp2_with fail
          ((with_reducible refine C2.out.mono ?_))
          rintro e V6 ⟨A7, c7, rfl, r7, n7, b7⟩
          have hV5 := HM5.out.lt
          rw [HL2.out] at r7
          have h8 := St.put_ (c := c7) (((H5.out.below b7).below ((Below.refl _ V6).alloc (Nat.le_refl _) (.cells #[.int .i64 (most : Nat), .slice A7 L2 c7, .int .i64 (G : Int)] 85)))) ((HM5.out.below b7 hV5).alloc _) ⟨hml, HMX.out⟩ (r7.alloc _) (fun j hj => by
            have h1 := n7 j hj
            have h2 := H5.out.old.size
            exact ⟨fun hx => by have := (H5.out.inn j hx).1; omega, by omega, by omega⟩)
          rw [← HL2.out] at h8
          have hm6 := (HM5.out.below b7 hV5).alloc (.cells #[.int .i64 (most : Nat), .slice A7 L2 c7, .int .i64 (G : Int)] 85)
          clear q0 q1 q2 z0 z1 z2 o0 o1 o2
          obtain ⟨q0, q1, q2, z0, z1, z2⟩ := blk3 hm6
          clear hm6 r7 n7 b7 H5 HM5 HMX HT HQ2 HGQ HBS HL2 HL3 HLB C2
          have hL8 := h8.b.size
          obtain ⟨L, hL⟩ : ∃ L, L = bz.length := ⟨_, rfl⟩
          have C3 := Lib.hid h8.b.bytes
          rw [← hL] at C3 hL8
          have HL := Lib.hid hL
          have H8 := Lib.hid h8
          clear h8 hL
          go_wp2_with fail
          ((with_reducible refine C3.out.mono ?_))
          rintro e V9 ⟨Ab, cb, rfl, rb, nb, b9⟩
          have h9 := H8.out.below b9
          have hm9 := h9.m
          rw [← HL.out] at hm9
          obtain ⟨q0, q1, q2, -, -, -⟩ := blk3 hm9
          have CS := Lib.hid (fun (k : Nat) => sameb_q (w := V9.drewN k) (c := cb) (d := c7) (show BytesAt (V9.drewN k) Ab L _ from rb.bytes) (show BytesAt (V9.drewN k) A7 L _ from by have := h9.row.bytes; rw [← HL.out] at this; exact this) (by unfold maxLen; omega))
          obtain ⟨A9, c9, hbf, _⟩ := h9.b.at_
          have CF := Lib.hid (fun (k : Nat) => bfull_any (hbf.drewN k))
          have CG := Lib.hid (fun (k : Nat) => bgone_any (hbf.drewN k))
          rw [← HL.out] at CF
          have NB := Lib.hid (fun (j : Nat) (hj : InB Ab j) => H8.out.new (nb j hj))
          have H9 := Lib.hid h9
          have HW0 := Lib.hid (fun (k : Nat) => show WInv V9 Ab L cb (.int .i64 0) (V9.drewN k) from ⟨0, _, Nat.zero_le _, rfl, rb.drewN k, (Kept.refl _ _).drewN k⟩)
          clear hm9 hbf h9 rb nb b9 H8 C3
          rcases Nat.lt_or_ge L most with hfull | hfull
          · have f1 : decide (L = most) = false := decide_eq_false (by omega)
            have f2 : ((L : Int) == (most : Int)) = false := by rw [beq_eq_false_iff_ne]; omega
            rw [f1] at CF
            clear f1
            go_wp2_with fail
            go_quiet ((first | (go_at_call 23; exact Calls.quiet_of (CS.out _)) | (go_at_call 50; exact Calls.quiet_of (CF.out _)) | (go_at_call 51; exact Calls.quiet_of_same (CG.out _))))
            go_wp2_with fail
            go_loopw [116] (fun i wr => WInv V9 Ab L cb i wr) (fun i _ => L - (intOf i).toNat)
            case atStart => exact HW0.out _
            case round =>
              clear HW0 q0 q1 q2 CS CF CG
              obtain ⟨i, zs, hi, rfl, hr, hk⟩ := hrel
              by_cases hlt2 : i < L
              · have hlt2' : (i : Int) < (L : Int) := by omega
                obtain ⟨gb, ob, hAb⟩ : ∃ gb ob, Ab = some ⟨gb, ob, none⟩ := by
                  rcases hr.cells with ⟨_, e⟩ | ⟨gb, ob, e, _⟩
                  · have := hr.le; omega
                  · exact ⟨gb, ob, e⟩
                subst hAb
                have hst := hr.store hlt2 99
                have hk2 := hk.set_ (p := ⟨gb, ob + i, none⟩) (.inl ⟨ob, rfl⟩) (u8V 99)
                obtain ⟨u, hu1, hu2⟩ := hr.at_ hlt2
                have HW1 := Lib.hid (show WInv V9 (some ⟨gb, ob, none⟩) L cb (.int .i64 ((i + 1 : Nat) : Int)) (wr.setCell ⟨gb, ob + i, none⟩ (u8V 99)) from ⟨i + 1, _, by omega, rfl, hst, hk2⟩)
                clear hst hk2 hr hk
                go_wp2_with fail
                go_roundw
                case rel =>
                  have := HW1.out
                  rw [show (((i + 1 : Nat)) : Int) = (i : Int) + 1 by omega] at this
                  exact this
                case measure => simp [intOf]; omega
              · have hlt2' : ¬ (i : Int) < (L : Int) := by omega
                have h10 := H9.out.kept hk (fun j hj => NB.out j hj)
                have HP := Lib.hid (show PInv w w.heap.size w3.heap.size n most (.int .i64 ((used + (pn + 1) : Nat) : Int)) (.int .i64 ((j + 1 : Nat) : Int)) wr from ⟨j + 1, _, _, _, _, _, _, by omega, rfl, rfl, by omega, by omega, h10⟩)
                clear h10 hr hk
                go_wp2_with fail
                go_roundw
                case rel =>
                  have := HP.out
                  rw [show (((j + 1 : Nat)) : Int) = (j : Int) + 1 by omega, show ((used + (pn + 1) : Nat) : Int) = (used : Int) + ((pn : Int) + 1) by omega] at this
                  exact this
                case measure => simp [intOf]; omega
          · have f1 : decide (L = most) = true := decide_eq_true (by omega)
            have f2 : ((L : Int) == (most : Int)) = true := by rw [beq_iff_eq]; omega
            rw [f1] at CF
            clear f1
            go_wp2_with fail
            go_quiet ((first | (go_at_call 23; exact Calls.quiet_of (CS.out _)) | (go_at_call 50; exact Calls.quiet_of (CF.out _)) | (go_at_call 51; exact Calls.quiet_of_same (CG.out _))))
            go_wp2_with fail
            go_loopw [116] (fun i wr => WInv V9 Ab L cb i wr) (fun i _ => L - (intOf i).toNat)
            case atStart => exact HW0.out _
            case round =>
              clear HW0 q0 q1 q2 CS CF CG
              obtain ⟨i, zs, hi, rfl, hr, hk⟩ := hrel
              by_cases hlt2 : i < L
              · have hlt2' : (i : Int) < (L : Int) := by omega
                obtain ⟨gb, ob, hAb⟩ : ∃ gb ob, Ab = some ⟨gb, ob, none⟩ := by
                  rcases hr.cells with ⟨_, e⟩ | ⟨gb, ob, e, _⟩
                  · have := hr.le; omega
                  · exact ⟨gb, ob, e⟩
                subst hAb
                have hst := hr.store hlt2 99
                have hk2 := hk.set_ (p := ⟨gb, ob + i, none⟩) (.inl ⟨ob, rfl⟩) (u8V 99)
                obtain ⟨u, hu1, hu2⟩ := hr.at_ hlt2
                have HW1 := Lib.hid (show WInv V9 (some ⟨gb, ob, none⟩) L cb (.int .i64 ((i + 1 : Nat) : Int)) (wr.setCell ⟨gb, ob + i, none⟩ (u8V 99)) from ⟨i + 1, _, by omega, rfl, hst, hk2⟩)
                clear hst hk2 hr hk
                go_wp2_with fail
                go_roundw
                case rel =>
                  have := HW1.out
                  rw [show (((i + 1 : Nat)) : Int) = (i : Int) + 1 by omega] at this
                  exact this
                case measure => simp [intOf]; omega
              · have hlt2' : ¬ (i : Int) < (L : Int) := by omega
                have h10 := H9.out.kept hk (fun j hj => NB.out j hj)
                have HP := Lib.hid (show PInv w w.heap.size w3.heap.size n most (.int .i64 ((used + (pn + 1) : Nat) : Int)) (.int .i64 ((j + 1 : Nat) : Int)) wr from ⟨j + 1, _, _, _, _, _, _, by omega, rfl, rfl, by omega, by omega, h10⟩)
                clear h10 hr hk
                go_wp2_with fail
                go_roundw
                case rel =>
                  have := HP.out
                  rw [show (((j + 1 : Nat)) : Int) = (j : Int) + 1 by omega, show ((used + (pn + 1) : Nat) : Int) = (used : Int) + ((pn : Int) + 1) by omega] at this
                  exact this
                case measure => simp [intOf]; omega
        · by_cases hk2 : kd = 2
          · subst hk2
            obtain ⟨Lb, hLb⟩ : ∃ Lb, Lb = bs.length := ⟨_, rfl⟩
            have hbz := h'.b.size
            rw [← hLb] at hbz
            have C := h'.b.take nm
            rw [← hLb] at C
            obtain ⟨t, ht⟩ : ∃ t, t = takeN nm Lb := ⟨_, rfl⟩
            have htL : t ≤ Lb := ht ▸ takeN_le nm Lb
            rw [← ht] at C
            have C := Lib.hid C
            have HT := Lib.hid h'
            have HLB := Lib.hid hLb
            have HTT := Lib.hid ht
            clear h' hLb ht
            go_wp2_with fail
            ((with_reducible refine C.out.mono ?_))
            rintro e V5 ⟨A2, c2, rfl, r2, h5, hk5, n2⟩
            have m5 : Blk V5 w3.heap.size 85 #[.int .i64 (most : Nat), .slice A' bs.length c', .int .i64 (g : Nat)] := (hk5.block _ HT.out.m.lt HT.out.mp_.2).trans HT.out.m
            have r5 := HT.out.row.kept hk5 (fun j hj => (HT.out.far j hj).1)
            rw [← HLB.out] at m5 r5
            have hml := HT.out.mp_.1
            have ob5 : Blk V5 wr.heap.size 88 _ := (hk5.block _ OB.out.lt hXo).trans OB.out
            obtain ⟨o0, o1, o2, -, -, -⟩ := blk3 ob5
            obtain ⟨q0, q1, q2, z0, z1, z2⟩ := blk3 m5
            have C2 := rbtake_any (most := most) (gone := ((g : Nat) : Int)) r5 nm
            rw [← HTT.out] at C2
            have C2 := Lib.hid C2
            have H5 := Lib.hid h5
            have HM5 := Lib.hid m5
            have HR5 := Lib.hid r5
            have HR2 := Lib.hid r2
            have HN2 := Lib.hid (fun (j : Nat) (hj : InB A2 j) => HT.out.new (n2 j hj))
            clear h5 hk5 m5 r5 r2 n2 C ob5
            go_wp2_with fail
            ((with_reducible refine C2.out.mono ?_))
            rintro e V6 ⟨rfl, b6⟩
            have hV5 := HM5.out.lt
            obtain ⟨W6, hW6⟩ : ∃ W6, W6 = V6.alloc (.cells #[.int .i64 (most : Nat), .slice (behind A' c' t) (Lb - t) (c' - t), .int .i64 (g : Nat)] 85) := ⟨_, rfl⟩
            have bW : Below V5.heap.size V5 W6 := hW6 ▸ b6.alloc b6.size _
            have hdl : (bs.drop t).length = Lb - t := by rw [List.length_drop, HLB.out]
            have hin : ∀ j, InB (behind A' c' t) j → InB A' j := fun j hj => HR5.out.behind_in hj
            have hr7 := (HR5.out.below bW).drop htL
            rw [← hdl] at hr7
            have h8 := St.put_ (c := c' - t) (H5.out.below bW) (HM5.out.below bW hV5) ⟨hml, HT.out.mp_.2⟩ hr7 (fun j hj => HT.out.far j (hin j hj))
            rw [hdl] at h8
            have hnm : ¬ InB A2 w3.heap.size := fun h => (HN2.out _ h).2.2.1 rfl
            have hnm' : ¬ InB A' w3.heap.size := fun h => (HT.out.far _ h).2.2 rfl
            have r8 := (((HR2.out.below bW).set_ (p := ⟨w3.heap.size, 0, none⟩) hnm (.int .i64 (most : Nat))).set_ (p := ⟨w3.heap.size, 1, none⟩) hnm (.slice (behind A' c' t) (Lb - t) (c' - t))).set_ (p := ⟨w3.heap.size, 2, none⟩) hnm (.int .i64 (g : Nat))
            have y8 := (((HR5.out.below bW).set_ (p := ⟨w3.heap.size, 0, none⟩) hnm' (.int .i64 (most : Nat))).set_ (p := ⟨w3.heap.size, 1, none⟩) hnm' (.slice (behind A' c' t) (Lb - t) (c' - t))).set_ (p := ⟨w3.heap.size, 2, none⟩) hnm' (.int .i64 (g : Nat))
            have C4 := sameb_yes (c := c2) (d := c') r8.bytes (y8.bytes.cut htL) (by unfold maxLen; omega)
            have hm6 := HM5.out.below bW hV5
            rw [hW6] at C4 h8 r8 hm6
            have C4 := Lib.hid C4
            have H8 := Lib.hid h8
            have HR8 := Lib.hid r8
            clear q0 q1 q2 z0 z1 z2 o0 o1 o2
            obtain ⟨q0, q1, q2, z0, z1, z2⟩ := blk3 hm6
            clear hW6 bW hdl hr7 h8 r8 y8 hm6 b6 C2 H5 HM5 HR5 HR2
            have HIN := Lib.hid hin
            clear hin hnm hnm'
            go_wp2_with fail
            ((with_reducible refine C4.out.mono ?_))
            rintro e V7 ⟨rfl, b7⟩
            have H7 := Lib.hid (H8.out.below b7)
            have HW0 := Lib.hid (show WInv V7 A2 t c2 (.int .i64 0) V7 from ⟨0, _, Nat.zero_le _, rfl, HR8.out.below b7, Kept.refl _ _⟩)
            have hcb2 := HR8.out.max
            unfold maxLen at hcb2
            have htc2 := HR8.out.le
            clear b7 H8 HR8 C4 q0 q1 q2 z0 z1 z2
            go_wp2_with fail
            go_loopw [82] (fun i wr => WInv V7 A2 t c2 i wr) (fun i _ => t - (intOf i).toNat)
            case atStart => exact HW0.out
            case round =>
              clear HW0
              obtain ⟨i, zs, hi, rfl, hr, hk⟩ := hrel
              by_cases hlt2 : i < t
              · have hlt2' : (i : Int) < (t : Int) := by omega
                obtain ⟨gb, ob, hAb⟩ : ∃ gb ob, A2 = some ⟨gb, ob, none⟩ := by
                  rcases hr.cells with ⟨_, e⟩ | ⟨gb, ob, e, _⟩
                  · have := hr.le; omega
                  · exact ⟨gb, ob, e⟩
                subst hAb
                have hst := hr.store hlt2 99
                have hk2 := hk.set_ (p := ⟨gb, ob + i, none⟩) (.inl ⟨ob, rfl⟩) (u8V 99)
                obtain ⟨u, hu1, hu2⟩ := hr.at_ hlt2
                have HW1 := Lib.hid (show WInv V7 (some ⟨gb, ob, none⟩) t c2 (.int .i64 ((i + 1 : Nat) : Int)) (wr.setCell ⟨gb, ob + i, none⟩ (u8V 99)) from ⟨i + 1, _, by omega, rfl, hst, hk2⟩)
                clear hst hk2 hr hk
                go_wp2_with fail
                go_roundw
                case rel =>
                  have := HW1.out
                  rw [show (((i + 1 : Nat)) : Int) = (i : Int) + 1 by omega] at this
                  exact this
                case measure => simp [intOf]; omega
              · have hlt2' : ¬ (i : Int) < (t : Int) := by omega
                have h8 := H7.out.kept hk (fun j hj => ⟨(HN2.out j hj).1, fun h => (HN2.out j hj).2.1 (HIN.out j h), (HN2.out j hj).2.2⟩)
                clear hr hk H7
                have hL8 := h8.b.size
                obtain ⟨L, hL⟩ : ∃ L, L = (bs.drop t).length := ⟨_, rfl⟩
                have C3 := Lib.hid h8.b.bytes
                rw [← hL] at C3 hL8
                have HL := Lib.hid hL
                have H8 := Lib.hid h8
                clear h8 hL
                go_wp2_with fail
                ((with_reducible refine C3.out.mono ?_))
                rintro e V9 ⟨Ab, cb, rfl, rb, nb, b9⟩
                have h9 := H8.out.below b9
                have hm9 := h9.m
                rw [← HL.out] at hm9
                obtain ⟨q0, q1, q2, -, -, -⟩ := blk3 hm9
                have CS := Lib.hid (fun (k : Nat) => sameb_q (w := V9.drewN k) (c := cb) (d := c' - t) (show BytesAt (V9.drewN k) Ab L _ from rb.bytes) (show BytesAt (V9.drewN k) (behind A' c' t) L _ from by have := h9.row.bytes; rw [← HL.out] at this; exact this) (by unfold maxLen; omega))
                obtain ⟨A9, c9, hbf, _⟩ := h9.b.at_
                have CF := Lib.hid (fun (k : Nat) => bfull_any (hbf.drewN k))
                have CG := Lib.hid (fun (k : Nat) => bgone_any (hbf.drewN k))
                rw [← HL.out] at CF
                have NB := Lib.hid (fun (j : Nat) (hj : InB Ab j) => H8.out.new (nb j hj))
                have H9 := Lib.hid h9
                have HW0 := Lib.hid (fun (k : Nat) => show WInv V9 Ab L cb (.int .i64 0) (V9.drewN k) from ⟨0, _, Nat.zero_le _, rfl, rb.drewN k, (Kept.refl _ _).drewN k⟩)
                clear hm9 hbf h9 rb nb b9 H8 C3
                rcases Nat.lt_or_ge L most with hfull | hfull
                · have f1 : decide (L = most) = false := decide_eq_false (by omega)
                  have f2 : ((L : Int) == (most : Int)) = false := by rw [beq_eq_false_iff_ne]; omega
                  rw [f1] at CF
                  clear f1
                  go_wp2_with fail
                  go_quiet ((first | (go_at_call 23; exact Calls.quiet_of (CS.out _)) | (go_at_call 50; exact Calls.quiet_of (CF.out _)) | (go_at_call 51; exact Calls.quiet_of_same (CG.out _))))
                  go_wp2_with fail
                  go_loopw [116] (fun i wr => WInv V9 Ab L cb i wr) (fun i _ => L - (intOf i).toNat)
                  case atStart => exact HW0.out _
                  case round =>
                    clear HW0 q0 q1 q2 CS CF CG
                    obtain ⟨i, zs, hi, rfl, hr, hk⟩ := hrel
                    by_cases hlt2 : i < L
                    · have hlt2' : (i : Int) < (L : Int) := by omega
                      obtain ⟨gb, ob, hAb⟩ : ∃ gb ob, Ab = some ⟨gb, ob, none⟩ := by
                        rcases hr.cells with ⟨_, e⟩ | ⟨gb, ob, e, _⟩
                        · have := hr.le; omega
                        · exact ⟨gb, ob, e⟩
                      subst hAb
                      have hst := hr.store hlt2 99
                      have hk2 := hk.set_ (p := ⟨gb, ob + i, none⟩) (.inl ⟨ob, rfl⟩) (u8V 99)
                      obtain ⟨u, hu1, hu2⟩ := hr.at_ hlt2
                      have HW1 := Lib.hid (show WInv V9 (some ⟨gb, ob, none⟩) L cb (.int .i64 ((i + 1 : Nat) : Int)) (wr.setCell ⟨gb, ob + i, none⟩ (u8V 99)) from ⟨i + 1, _, by omega, rfl, hst, hk2⟩)
                      clear hst hk2 hr hk
                      go_wp2_with fail
                      go_roundw
                      case rel =>
                        have := HW1.out
                        rw [show (((i + 1 : Nat)) : Int) = (i : Int) + 1 by omega] at this
                        exact this
                      case measure => simp [intOf]; omega
                    · have hlt2' : ¬ (i : Int) < (L : Int) := by omega
                      have h10 := H9.out.kept hk (fun j hj => NB.out j hj)
                      have HP := Lib.hid (show PInv w w.heap.size w3.heap.size n most (.int .i64 ((used + (pn + 1) : Nat) : Int)) (.int .i64 ((j + 1 : Nat) : Int)) wr from ⟨j + 1, _, _, _, _, _, _, by omega, rfl, rfl, by omega, by omega, h10⟩)
                      clear h10 hr hk
                      go_wp2_with fail
                      go_roundw
                      case rel =>
                        have := HP.out
                        rw [show (((j + 1 : Nat)) : Int) = (j : Int) + 1 by omega, show ((used + (pn + 1) : Nat) : Int) = (used : Int) + ((pn : Int) + 1) by omega] at this
                        exact this
                      case measure => simp [intOf]; omega
                · have f1 : decide (L = most) = true := decide_eq_true (by omega)
                  have f2 : ((L : Int) == (most : Int)) = true := by rw [beq_iff_eq]; omega
                  rw [f1] at CF
                  clear f1
                  go_wp2_with fail
                  go_quiet ((first | (go_at_call 23; exact Calls.quiet_of (CS.out _)) | (go_at_call 50; exact Calls.quiet_of (CF.out _)) | (go_at_call 51; exact Calls.quiet_of_same (CG.out _))))
                  go_wp2_with fail
                  go_loopw [116] (fun i wr => WInv V9 Ab L cb i wr) (fun i _ => L - (intOf i).toNat)
                  case atStart => exact HW0.out _
                  case round =>
                    clear HW0 q0 q1 q2 CS CF CG
                    obtain ⟨i, zs, hi, rfl, hr, hk⟩ := hrel
                    by_cases hlt2 : i < L
                    · have hlt2' : (i : Int) < (L : Int) := by omega
                      obtain ⟨gb, ob, hAb⟩ : ∃ gb ob, Ab = some ⟨gb, ob, none⟩ := by
                        rcases hr.cells with ⟨_, e⟩ | ⟨gb, ob, e, _⟩
                        · have := hr.le; omega
                        · exact ⟨gb, ob, e⟩
                      subst hAb
                      have hst := hr.store hlt2 99
                      have hk2 := hk.set_ (p := ⟨gb, ob + i, none⟩) (.inl ⟨ob, rfl⟩) (u8V 99)
                      obtain ⟨u, hu1, hu2⟩ := hr.at_ hlt2
                      have HW1 := Lib.hid (show WInv V9 (some ⟨gb, ob, none⟩) L cb (.int .i64 ((i + 1 : Nat) : Int)) (wr.setCell ⟨gb, ob + i, none⟩ (u8V 99)) from ⟨i + 1, _, by omega, rfl, hst, hk2⟩)
                      clear hst hk2 hr hk
                      go_wp2_with fail
                      go_roundw
                      case rel =>
                        have := HW1.out
                        rw [show (((i + 1 : Nat)) : Int) = (i : Int) + 1 by omega] at this
                        exact this
                      case measure => simp [intOf]; omega
                    · have hlt2' : ¬ (i : Int) < (L : Int) := by omega
                      have h10 := H9.out.kept hk (fun j hj => NB.out j hj)
                      have HP := Lib.hid (show PInv w w.heap.size w3.heap.size n most (.int .i64 ((used + (pn + 1) : Nat) : Int)) (.int .i64 ((j + 1 : Nat) : Int)) wr from ⟨j + 1, _, _, _, _, _, _, by omega, rfl, rfl, by omega, by omega, h10⟩)
                      clear h10 hr hk
                      go_wp2_with fail
                      go_roundw
                      case rel =>
                        have := HP.out
                        rw [show (((j + 1 : Nat)) : Int) = (j : Int) + 1 by omega, show ((used + (pn + 1) : Nat) : Int) = (used : Int) + ((pn : Int) + 1) by omega] at this
                        exact this
                      case measure => simp [intOf]; omega
          · have hk1b : (kd == 1) = false := by rw [beq_eq_false_iff_ne]; exact hk1
            have hk2b : (kd == 2) = false := by rw [beq_eq_false_iff_ne]; exact hk2
            clear hk1 hk2
            have h8 := h'
            clear h' OB hXo
            have hL8 := h8.b.size
            obtain ⟨L, hL⟩ : ∃ L, L = bs.length := ⟨_, rfl⟩
            have C3 := Lib.hid h8.b.bytes
            rw [← hL] at C3 hL8
            have HL := Lib.hid hL
            have H8 := Lib.hid h8
            clear h8 hL
            go_wp2_with fail
            ((with_reducible refine C3.out.mono ?_))
            rintro e V9 ⟨Ab, cb, rfl, rb, nb, b9⟩
            have h9 := H8.out.below b9
            have hm9 := h9.m
            rw [← HL.out] at hm9
            obtain ⟨q0, q1, q2, -, -, -⟩ := blk3 hm9
            have CS := Lib.hid (fun (k : Nat) => sameb_q (w := V9.drewN k) (c := cb) (d := c') (show BytesAt (V9.drewN k) Ab L _ from rb.bytes) (show BytesAt (V9.drewN k) A' L _ from by have := h9.row.bytes; rw [← HL.out] at this; exact this) (by unfold maxLen; omega))
            obtain ⟨A9, c9, hbf, _⟩ := h9.b.at_
            have CF := Lib.hid (fun (k : Nat) => bfull_any (hbf.drewN k))
            have CG := Lib.hid (fun (k : Nat) => bgone_any (hbf.drewN k))
            rw [← HL.out] at CF
            have NB := Lib.hid (fun (j : Nat) (hj : InB Ab j) => H8.out.new (nb j hj))
            have H9 := Lib.hid h9
            have HW0 := Lib.hid (fun (k : Nat) => show WInv V9 Ab L cb (.int .i64 0) (V9.drewN k) from ⟨0, _, Nat.zero_le _, rfl, rb.drewN k, (Kept.refl _ _).drewN k⟩)
            clear hm9 hbf h9 rb nb b9 H8 C3
            rcases Nat.lt_or_ge L most with hfull | hfull
            · have f1 : decide (L = most) = false := decide_eq_false (by omega)
              have f2 : ((L : Int) == (most : Int)) = false := by rw [beq_eq_false_iff_ne]; omega
              rw [f1] at CF
              clear f1
              go_wp2_with fail
              go_quiet ((first | (go_at_call 23; exact Calls.quiet_of (CS.out _)) | (go_at_call 50; exact Calls.quiet_of (CF.out _)) | (go_at_call 51; exact Calls.quiet_of_same (CG.out _))))
              go_wp2_with fail
              go_loopw [116] (fun i wr => WInv V9 Ab L cb i wr) (fun i _ => L - (intOf i).toNat)
              case atStart => exact HW0.out _
              case round =>
                clear HW0 q0 q1 q2 CS CF CG
                obtain ⟨i, zs, hi, rfl, hr, hk⟩ := hrel
                by_cases hlt2 : i < L
                · have hlt2' : (i : Int) < (L : Int) := by omega
                  obtain ⟨gb, ob, hAb⟩ : ∃ gb ob, Ab = some ⟨gb, ob, none⟩ := by
                    rcases hr.cells with ⟨_, e⟩ | ⟨gb, ob, e, _⟩
                    · have := hr.le; omega
                    · exact ⟨gb, ob, e⟩
                  subst hAb
                  have hst := hr.store hlt2 99
                  have hk2 := hk.set_ (p := ⟨gb, ob + i, none⟩) (.inl ⟨ob, rfl⟩) (u8V 99)
                  obtain ⟨u, hu1, hu2⟩ := hr.at_ hlt2
                  have HW1 := Lib.hid (show WInv V9 (some ⟨gb, ob, none⟩) L cb (.int .i64 ((i + 1 : Nat) : Int)) (wr.setCell ⟨gb, ob + i, none⟩ (u8V 99)) from ⟨i + 1, _, by omega, rfl, hst, hk2⟩)
                  clear hst hk2 hr hk
                  go_wp2_with fail
                  go_roundw
                  case rel =>
                    have := HW1.out
                    rw [show (((i + 1 : Nat)) : Int) = (i : Int) + 1 by omega] at this
                    exact this
                  case measure => simp [intOf]; omega
                · have hlt2' : ¬ (i : Int) < (L : Int) := by omega
                  have h10 := H9.out.kept hk (fun j hj => NB.out j hj)
                  have HP := Lib.hid (show PInv w w.heap.size w3.heap.size n most (.int .i64 ((used + (pn + 1) : Nat) : Int)) (.int .i64 ((j + 1 : Nat) : Int)) wr from ⟨j + 1, _, _, _, _, _, _, by omega, rfl, rfl, by omega, by omega, h10⟩)
                  clear h10 hr hk
                  go_wp2_with fail
                  go_roundw
                  case rel =>
                    have := HP.out
                    rw [show (((j + 1 : Nat)) : Int) = (j : Int) + 1 by omega, show ((used + (pn + 1) : Nat) : Int) = (used : Int) + ((pn : Int) + 1) by omega] at this
                    exact this
                  case measure => simp [intOf]; omega
            · have f1 : decide (L = most) = true := decide_eq_true (by omega)
              have f2 : ((L : Int) == (most : Int)) = true := by rw [beq_iff_eq]; omega
              rw [f1] at CF
              clear f1
              go_wp2_with fail
              go_quiet ((first | (go_at_call 23; exact Calls.quiet_of (CS.out _)) | (go_at_call 50; exact Calls.quiet_of (CF.out _)) | (go_at_call 51; exact Calls.quiet_of_same (CG.out _))))
              go_wp2_with fail
              go_loopw [116] (fun i wr => WInv V9 Ab L cb i wr) (fun i _ => L - (intOf i).toNat)
              case atStart => exact HW0.out _
              case round =>
                clear HW0 q0 q1 q2 CS CF CG
                obtain ⟨i, zs, hi, rfl, hr, hk⟩ := hrel
                by_cases hlt2 : i < L
                · have hlt2' : (i : Int) < (L : Int) := by omega
                  obtain ⟨gb, ob, hAb⟩ : ∃ gb ob, Ab = some ⟨gb, ob, none⟩ := by
                    rcases hr.cells with ⟨_, e⟩ | ⟨gb, ob, e, _⟩
                    · have := hr.le; omega
                    · exact ⟨gb, ob, e⟩
                  subst hAb
                  have hst := hr.store hlt2 99
                  have hk2 := hk.set_ (p := ⟨gb, ob + i, none⟩) (.inl ⟨ob, rfl⟩) (u8V 99)
                  obtain ⟨u, hu1, hu2⟩ := hr.at_ hlt2
                  have HW1 := Lib.hid (show WInv V9 (some ⟨gb, ob, none⟩) L cb (.int .i64 ((i + 1 : Nat) : Int)) (wr.setCell ⟨gb, ob + i, none⟩ (u8V 99)) from ⟨i + 1, _, by omega, rfl, hst, hk2⟩)
                  clear hst hk2 hr hk
                  go_wp2_with fail
                  go_roundw
                  case rel =>
                    have := HW1.out
                    rw [show (((i + 1 : Nat)) : Int) = (i : Int) + 1 by omega] at this
                    exact this
                  case measure => simp [intOf]; omega
                · have hlt2' : ¬ (i : Int) < (L : Int) := by omega
                  have h10 := H9.out.kept hk (fun j hj => NB.out j hj)
                  have HP := Lib.hid (show PInv w w.heap.size w3.heap.size n most (.int .i64 ((used + (pn + 1) : Nat) : Int)) (.int .i64 ((j + 1 : Nat) : Int)) wr from ⟨j + 1, _, _, _, _, _, _, by omega, rfl, rfl, by omega, by omega, h10⟩)
                  clear h10 hr hk
                  go_wp2_with fail
                  go_roundw
                  case rel =>
                    have := HP.out
                    rw [show (((j + 1 : Nat)) : Int) = (j : Int) + 1 by omega, show ((used + (pn + 1) : Nat) : Int) = (used : Int) + ((pn : Int) + 1) by omega] at this
                    exact this
                  case measure => simp [intOf]; omega
    · have hlt' : ¬ (j : Int) < (n : Int) := by omega
      have HB := Lib.hid h.b.old
      clear h
      go_wp2
      go_ret
      exact ⟨rfl, HB.out⟩
end Go.Proofs.Ytmcapiikplflkaa
