/- The clauses' patterns looked for in a buffer; a buffer that is full. -/
import Derived.Test.YtgcbcdbfeaepkaaHc
namespace Go.Proofs.Ytgcbcdbfeaepkaa
open Go.RowKit Go.Maps

def OutP (w : World) (o : Out) (e : Ending) (w' : World) : Prop := ∃ A m c, e = .returned (outV o A m c) ∧ RowAt w' A m c o.text ∧ (∀ j, InB A j → w.heap.size ≤ j) ∧ m ≤ 2000
def outF (bs : List UInt8) : Option (Nat × Nat × Nat) → Out
  | none => ⟨0, 0, [], 0⟩
  | some (i, a, b) => ⟨1, (i : Nat), (bs.take b).drop a, 0⟩
def leftF (bs : List UInt8) : Option (Nat × Nat × Nat) → List UInt8
  | none => bs
  | some (_, _, b) => bs.drop b
theorem zero_out (w : World) (g : Nat) : OutP w ⟨0, 0, [], g⟩ (.returned (.agg #[.int .i64 0, .int .i64 0, .slice none 0 0, .int .i64 (g : Nat)])) w := ⟨none, 0, 0, rfl, RowAt.nil w, (fun j hj => by obtain ⟨o, e⟩ := hj; cases e), by decide⟩
theorem kept4 (w : World) (g : Nat) (a b c d : Value) : Kept (fun j => j = g) w ((((w.setCell ⟨g, 0, none⟩ a).setCell ⟨g, 1, none⟩ b).setCell ⟨g, 2, none⟩ c).setCell ⟨g, 3, none⟩ d) :=
  ((((Kept.refl (fun j => j = g) w).set_ (p := ⟨g, 0, none⟩) (.inl rfl) _).set_ (p := ⟨g, 1, none⟩) (.inl rfl) _).set_ (p := ⟨g, 2, none⟩) (.inl rfl) _).set_ (p := ⟨g, 3, none⟩) (.inl rfl) _
section
variable {w0 w w' : World} {lp bp : Nat} {X R Y : Nat → Prop} {A : Option Addr} {n : Nat} {cs : List Cl} {Z : Nat → Nat → Prop} {s : Ls} {bs : List UInt8} {most : Nat} {gone : Int}
def FoundP (w0 w : World) (lp bp : Nat) (X R Y : Nat → Prop) (A : Option Addr) (n : Nat) (cs : List Cl) (Z : Nat → Nat → Prop) (s : Ls) (bs : List UInt8) (most : Nat) (gone : Int) (r : Option (Nat × Nat × Nat)) (e : Ending) (w' : World) : Prop :=
  OutP w (outF bs r) e w' ∧ TS w0 w' lp bp X R Y A n cs Z s (leftF bs r) most gone ∧ Kept (fun j => Y j ∨ ZB A Z j) w w'
def FullP (w0 w : World) (lp bp : Nat) (X R Y : Nat → Prop) (A : Option Addr) (n : Nat) (cs : List Cl) (Z : Nat → Nat → Prop) (s : Ls) (bs : List UInt8) (most : Nat) (gone : Int) (e : Ending) (w' : World) : Prop :=
  (fullT cs most true bs = true ∧ OutP w ⟨2, firstK 7 cs 0, bs, 0⟩ e w' ∧ TS w0 w' lp bp X R Y A n cs Z s [] most gone ∧ Kept Y w w') ∨
  (fullT cs most true bs = false ∧ OutP w ⟨0, 0, [], 0⟩ e w' ∧ TS w0 w' lp bp X R Y A n cs Z s bs most gone ∧ Kept Y w w')
set_option maxHeartbeats 2000000 in
set_option maxRecDepth 100000 in
theorem filled_any (h : TS w0 w lp bp X R Y A n cs Z s bs most gone) (c : Nat) : Calls Try.prog 77 #[.pointer (some ⟨bp, 0, none⟩), .slice A n c] w (FullP w0 w lp bp X R Y A n cs Z s bs most gone) := by
  have H := Lib.hid h
  have hsz := h.buf.size
  have ba := (Below.refl w.heap.size w).alloc (Nat.le_refl _) (.cells #[.int .i64 0, .int .i64 0, .slice none 0 0, .int .i64 0] 105)
  have HBA := Lib.hid ba
  have HT := Lib.hid (Blk.new w 105 #[.int .i64 0, .int .i64 0, .slice none 0 0, .int .i64 0])
  have hlt : w.heap.size < (w.alloc (.cells #[.int .i64 0, .int .i64 0, .slice none 0 0, .int .i64 0] 105)).heap.size := by simp
  have C := Lib.hid (tfirst_any (h.below ba).cls 7 c)
  obtain ⟨k, hk⟩ : ∃ k, k = firstK 7 cs 0 := ⟨_, rfl⟩
  have HK := Lib.hid hk
  rw [← hk] at C
  clear h ba hk
  go_enter Try.func77, Try.ntmps77
  go_wp2_with fail
  refine C.out.mono ?_
  rintro e w1 ⟨rfl, b1⟩
  have HB1 := Lib.hid (HBA.out.trans (b1.mono HBA.out.size))
  have T1 := HT.out.below b1 hlt
  have HT1 := Lib.hid T1
  have hlt1 : w.heap.size < w1.heap.size := T1.lt
  clear b1 T1 C
  by_cases hneg : k < 0
  · have HR := Lib.hid (show ∀ W, Below w.heap.size w W → FullP w0 w lp bp X R Y A n cs Z s bs most gone (.returned (.agg #[.int .i64 0, .int .i64 0, .slice none 0 0, .int .i64 0])) W from fun W hW =>
      .inr ⟨by unfold fullT; rw [← HK.out]; simp; omega, by obtain ⟨A, m, c, e1, e2, e3, e4⟩ := zero_out W 0; exact ⟨A, m, c, e1, e2, fun j hj => Nat.le_trans hW.size (e3 j hj), e4⟩, H.out.below hW, kept_below hW⟩)
    obtain ⟨⟨d0, d1, d2, d3⟩, f0, f1, f2, f3⟩ := blk4 HT1.out
    go_wp2
    refine bodyPost_ret (v := .agg #[.int .i64 0, .int .i64 0, .slice none 0 0, .int .i64 0]) (by simp [results, Try.results77, go_sem, *]) rfl ?_
    exact HR.out _ (below4 HB1.out (Nat.le_refl _) _ _ _ _)
  have hneg' : ¬ k < 0 := hneg
  have F := Lib.hid (H.out.below HB1.out).buf.full
  obtain ⟨L, hL⟩ : ∃ L, L = decide (bs.length = most) := ⟨_, rfl⟩
  have HL := Lib.hid hL
  rw [← hL] at F
  clear hL
  cases L
  · have HR := Lib.hid (show ∀ W, Below w.heap.size w W → FullP w0 w lp bp X R Y A n cs Z s bs most gone (.returned (.agg #[.int .i64 0, .int .i64 0, .slice none 0 0, .int .i64 0])) W from fun W hW =>
      .inr ⟨by unfold fullT; rw [← HL.out]; simp, by obtain ⟨A, m, c, e1, e2, e3, e4⟩ := zero_out W 0; exact ⟨A, m, c, e1, e2, fun j hj => Nat.le_trans hW.size (e3 j hj), e4⟩, H.out.below hW, kept_below hW⟩)
    go_wp2_with fail
    refine F.out.mono ?_
    rintro e w2 ⟨rfl, b2⟩
    have HB2 := Lib.hid (HB1.out.trans (b2.mono HB1.out.size))
    obtain ⟨⟨d0, d1, d2, d3⟩, f0, f1, f2, f3⟩ := blk4 (HT1.out.below b2 hlt1)
    clear b2
    go_wp2
    refine bodyPost_ret (v := .agg #[.int .i64 0, .int .i64 0, .slice none 0 0, .int .i64 0]) (by simp [results, Try.results77, go_sem, *]) rfl ?_
    exact HR.out _ (below4 HB2.out (Nat.le_refl _) _ _ _ _)
  · go_wp2_with fail
    refine F.out.mono ?_
    rintro e w2 ⟨rfl, b2⟩
    have HB2 := Lib.hid (HB1.out.trans (b2.mono HB1.out.size))
    have TA := Lib.hid ((H.out.below HB1.out).below b2)
    have HT2 := Lib.hid (HT1.out.below b2 hlt1)
    have hlt2 : w.heap.size < w2.heap.size := HT2.out.lt
    clear b2
    have G := TA.out.buf.take (2000 : Nat)
    have htk : takeN ((2000 : Nat) : Int) bs.length = bs.length := by unfold takeN; omega
    rw [htk] at G
    have HG := Lib.hid G
    clear G htk
    go_wp2_with fail
    refine HG.out.mono ?_
    rintro e w3 ⟨A3, c3, rfl, r3, b3, k3, f3'⟩
    have hnY : ¬ Y w.heap.size := fun hy => by have := (H.out.buf.inn _ hy).1; omega
    have T3 : Blk w3 w.heap.size 105 #[.int .i64 0, .int .i64 0, .slice none 0 0, .int .i64 0] := (k3.block _ hlt2 hnY).trans HT2.out
    obtain ⟨⟨d0, d1, d2, d3⟩, f0, f1, f2, f3⟩ := blk4 T3
    rw [List.take_length] at r3
    rw [List.drop_length] at b3
    have HR := Lib.hid (show ∀ W, Kept (fun j => j = w.heap.size) w3 W → FullP w0 w lp bp X R Y A n cs Z s bs most gone (.returned (.agg #[.int .i64 2, .int .i64 k, .slice A3 bs.length c3, .int .i64 0])) W from fun W hW => by
      have hs0 := H.out.buf.old.size
      have new : ∀ j, (X j ∨ R j) ∨ Y j ∨ ZB A Z j → ¬ j = w.heap.size := fun j hj e => by
        subst e
        rcases hj with hj | hj | hj
        · have := (H.out.line.inn _ hj).1; omega
        · have := (H.out.buf.inn _ hj).1; omega
        · have := (H.out.zin _ hj).1; omega
      have t3 := TA.out.took k3 b3
      have hbW : Kept Y w W := ((kept_below HB2.out).trans k3 (fun j hj => .inl hj)).trans hW (fun j hj => .inr (by omega))
      refine .inl ⟨by unfold fullT; rw [← HL.out, ← HK.out]; simp; omega, ⟨A3, bs.length, c3, by rw [HK.out]; rfl, r3.kept hW (fun j hj e => by have := f3' j hj; omega), fun j hj => by have := f3' j hj; have := HB2.out.size; omega, by omega⟩, ?_, hbW⟩
      exact ⟨t3.line.kept hW (fun j hj => new j (.inl hj)) (fun j hj => by omega), t3.buf.kept hW (fun j hj => new j (.inr (.inl hj))) (fun j hj => by omega), t3.cls.kept hW (fun j hj => new j (.inr (.inr hj))), t3.xy, t3.xz, t3.yz, fun j hj => ⟨Nat.lt_of_lt_of_le (t3.zin j hj).1 hW.size, (t3.zin j hj).2⟩⟩)
    clear r3 b3 k3 f3' T3
    go_wp2
    refine bodyPost_ret (v := .agg #[.int .i64 2, .int .i64 k, .slice A3 bs.length c3, .int .i64 0]) (by simp [results, Try.results77, go_sem, *]) rfl ?_
    refine HR.out _ ?_
    exact kept4 w3 _ _ _ _ _
theorem ClOk.ptr {Zi : Nat → Prop} {c : Cl} {v : Value} (h : ClOk w Zi c v) : ∃ q, v = .pointer q := by
  rcases h with ⟨_, _, p, _, _, _, _, _, e, _⟩ | ⟨_, _, e⟩
  · exact ⟨_, e⟩
  · exact ⟨_, e⟩
theorem TS.keep (h : TS w0 w lp bp X R Y A n cs Z s bs most gone) {V : Nat → Prop} (hk : Kept V w w') (hV : ∀ j, (X j ∨ R j) ∨ Y j ∨ ZB A Z j → ¬ V j) (h0 : ∀ j, V j → w0.heap.size ≤ j) : TS w0 w' lp bp X R Y A n cs Z s bs most gone :=
  ⟨h.line.kept hk (fun j hj => hV j (.inl hj)) h0, h.buf.kept hk (fun j hj => hV j (.inr (.inl hj))) h0, h.cls.kept hk (fun j hj => hV j (.inr (.inr hj))), h.xy, h.xz, h.yz, fun j hj => ⟨Nat.lt_of_lt_of_le (h.zin j hj).1 hk.size, (h.zin j hj).2⟩⟩
theorem TS.new (h : TS w0 w lp bp X R Y A n cs Z s bs most gone) {g : Nat} (hg : w.heap.size ≤ g) (j : Nat) (hj : (X j ∨ R j) ∨ Y j ∨ ZB A Z j) : ¬ j = g := by
  rintro rfl
  rcases hj with hj | hj | hj
  · have := (h.line.inn _ hj).1; omega
  · have := (h.buf.inn _ hj).1; omega
  · have := (h.zin _ hj).1; omega
set_option maxHeartbeats 2000000 in
set_option maxRecDepth 100000 in
theorem found_any (h : TS w0 w lp bp X R Y A n cs Z s bs most gone) (c : Nat) : Calls Try.prog 76 #[.pointer (some ⟨bp, 0, none⟩), .slice A n c] w (FoundP w0 w lp bp X R Y A n cs Z s bs most gone (foundT cs 0 bs)) := by
  have H := Lib.hid h
  have hsz := h.buf.size
  have hlen := h.cls.len
  have hmax := h.cls.max
  have ba := (Below.refl w.heap.size w).alloc (Nat.le_refl _) (.cells #[.int .i64 0, .int .i64 0, .slice none 0 0, .int .i64 0] 105)
  have HBA := Lib.hid ba
  have HT := Lib.hid (Blk.new w 105 #[.int .i64 0, .int .i64 0, .slice none 0 0, .int .i64 0])
  have hlt : w.heap.size < (w.alloc (.cells #[.int .i64 0, .int .i64 0, .slice none 0 0, .int .i64 0] 105)).heap.size := by simp
  have C := Lib.hid (h.below ba).buf.bytes
  clear h ba
  go_enter Try.func76, Try.ntmps76
  go_wp2_with fail
  refine C.out.mono ?_
  rintro e w1 ⟨B, d, rfl, r1, f1, b1⟩
  have HB1 := Lib.hid (HBA.out.trans (b1.mono HBA.out.size))
  have HT1 := Lib.hid (HT.out.below b1 hlt)
  have HX := Lib.hid r1.bytes
  have HF := Lib.hid (fun j hj => show w.heap.size < j from Nat.lt_of_lt_of_le hlt (f1 j hj))
  obtain ⟨L, hL⟩ : ∃ L, L = bs.length := ⟨_, rfl⟩
  have HLL := Lib.hid hL
  rw [← hL] at HX hsz ⊢
  have H1 := Lib.hid (H.out.below HB1.out)
  clear r1 f1 b1 hL C
  go_wp2_with fail
  go_loopw [15] (fun i wr => ∃ j : Nat, j ≤ n ∧ i = .int .i64 (j : Nat) ∧ foundT cs 0 bs = foundT (cs.drop j) j bs ∧ TS w0 wr lp bp X R Y A n cs Z s bs most gone ∧ BytesAt wr B L bs ∧ Kept (ZB A Z) w wr ∧ Blk wr w.heap.size 105 #[.int .i64 0, .int .i64 0, .slice none 0 0, .int .i64 0]) (fun i _ => n - (intOf i).toNat)
  case atStart => exact ⟨0, Nat.zero_le _, rfl, rfl, H1.out, HX.out, kept_below HB1.out, HT1.out⟩
  case round =>
    obtain ⟨j, hj, rfl, hf, ht, hx, hk, hT⟩ := hrel
    have HFF := Lib.hid hf
    have HTS := Lib.hid ht
    have HK := Lib.hid hk
    have HTr := Lib.hid hT
    by_cases hlt : j < n
    · have hlt' : (j : Int) < (n : Int) := by omega
      have hj0 : (0 : Int) ≤ (j : Int) := by omega
      obtain ⟨cl, hz⟩ : ∃ z, cs[j]? = some z := ⟨cs[j]'(by omega), List.getElem?_eq_getElem _⟩
      obtain ⟨b1, o1, rfl, hb1, hc1⟩ := ht.cls.cells (by omega)
      obtain ⟨c0, v, c1, hok⟩ := hc1 j _ hz
      obtain ⟨q, rfl⟩ := hok.ptr
      have ba := (Below.refl wr.heap.size wr).alloc (Nat.le_refl _) (.cells #[.int .i64 cl.kind, .pointer q] 154)
      have F := Lib.hid (tfind_any (d := d) (ht.cls.below ba) hz (fun b o e => by
        injection e with e; injection e with e1 e2 _
        subst e1 e2
        exact (ba.cell (p := ⟨b1, o1 + j * 2 + 1, none⟩) hb1).trans c1) (hok.kept (kept_below (X := fun _ => False) ba) (fun _ _ h => h)) (hx.below ba) (fun k hk2 hzb => by
        have := (H.out.zin k hzb).1
        have := HF.out k hk2; omega) (by omega))
      have HZ := Lib.hid hz
      have HX2 := Lib.hid (hx.below ba)
      have HTA := Lib.hid (ht.below ba)
      have HKA := Lib.hid (show Kept (ZB (some ⟨b1, o1, none⟩) Z) w (wr.alloc (.cells #[.int .i64 cl.kind, .pointer q] 154)) from hk.trans (kept_below (X := fun _ => False) ba) (fun _ h => False.elim h))
      have HTb := Lib.hid (hT.below ba hT.lt)
      obtain ⟨ck, hck⟩ : ∃ ck, ck = cl.kind := ⟨_, rfl⟩
      rw [← hck] at c0 F HX2 HTA HKA HTb
      clear hc1 hok hx ht hk hT hf hz hck ba
      go_wp2_with fail
      refine F.out.mono ?_
      rintro e w3 ⟨a, b, ok, rfl, hr, hcls, hk3⟩
      have HCL := Lib.hid hcls
      have HK3 := Lib.hid hk3
      have HTS3 := Lib.hid (HTA.out.ran hk3 hcls)
      have HT3 := Lib.hid (show Blk w3 w.heap.size 105 #[.int .i64 0, .int .i64 0, .slice none 0 0, .int .i64 0] from (hk3.block _ HTb.out.lt (fun hzb => by have := (H.out.zin _ hzb).1; omega)).trans HTb.out)
      rcases hr with ⟨rfl, hnone⟩ | ⟨rfl, f, u, rfl, rfl, hsome, hfu, hul⟩
      · have HM := Lib.hid (foundT_miss HZ.out hnone)
        clear hnone hcls hk3
        go_wp2_with fail
        go_roundw
        case rel => exact ⟨j + 1, by omega, by go_num, HFF.out.trans HM.out, HTS3.out, BytesAt.keep HX2.out (fun _ b o e hbl => HK3.out.block b hbl (fun hzb => by have := (H.out.zin b hzb).1; have := HF.out b ⟨o, e⟩; omega)) HK3.out.size, HKA.out.trans HK3.out (fun j hj => .inl hj), HT3.out⟩
        case measure => simp [intOf]; omega
      · have HM := Lib.hid (foundT_hit HZ.out hsome)
        have G := HTS3.out.buf.take (u : Nat)
        have htk : takeN ((u : Nat) : Int) bs.length = u := by unfold takeN; omega
        rw [htk] at G
        have HG := Lib.hid G
        have hlt3 := HT3.out.lt
        clear G htk hsome hcls hk3
        go_wp2_with fail
        refine HG.out.mono ?_
        rintro e w4 ⟨A4, c4, rfl, r4, b4, k4, f4⟩
        obtain ⟨D, hD⟩ : ∃ D, D = behind A4 c4 f := ⟨_, rfl⟩
        have hD2 : (if c4 = f then A4 else Option.map (fun x => x.add f) A4) = D := hD.symm
        have rd := r4.drop hfu
        rw [← hD] at rd
        have hdin : ∀ k, InB D k → InB A4 k := fun k hk => r4.behind_in (hD ▸ hk)
        have hnY : ¬ Y w.heap.size := fun hy => by have := (H.out.buf.inn _ hy).1; omega
        have T4 : Blk w4 w.heap.size 105 #[.int .i64 0, .int .i64 0, .slice none 0 0, .int .i64 0] := (k4.block _ hlt3 hnY).trans HT3.out
        obtain ⟨⟨d0, d1, d2, d3⟩, f0, f1, f2, f3⟩ := blk4 T4
        have hle4 := r4.le
        have hmx4 := r4.max
        unfold maxLen at hmx4
        have hfc : f ≤ c4 := by omega
        have HR := Lib.hid (show ∀ W, Kept (fun j => j = w.heap.size) w4 W → FoundP w0 w lp bp X R Y (some ⟨b1, o1, none⟩) n cs Z s bs most gone (foundT cs 0 bs) (.returned (.agg #[.int .i64 1, .int .i64 (j : Nat), .slice D (u - f) (c4 - f), .int .i64 0])) W from fun W hW => by
          rw [HFF.out, HM.out]
          have hs0 := H.out.buf.old.size
          have hkk : Kept (fun j => Y j ∨ ZB (some ⟨b1, o1, none⟩) Z j) w w4 := ((HKA.out.trans HK3.out (fun j hj => .inl hj)).mono (fun j _ hj => .inr hj)).trans k4 (fun j hj => .inl (.inl hj))
          have hsz4 : w.heap.size < w4.heap.size := T4.lt
          refine ⟨⟨D, u - f, c4 - f, rfl, rd.kept hW (fun k hk e => by have := f4 k (hdin k hk); omega), fun k hk => by have := f4 k (hdin k hk); omega, by have := HLL.out; omega⟩, (HTS3.out.took k4 b4).keep hW (fun k hk => ?_) (fun k hk => by omega), hkk.trans hW (fun k hk => .inr (by omega))⟩
          exact (H.out.new (Nat.le_refl _) k hk))
        clear r4 b4 k4 f4 T4 hD rd hdin
        go_wp2
        refine bodyPost_ret (v := .agg #[.int .i64 1, .int .i64 (j : Nat), .slice D (u - f) (c4 - f), .int .i64 0]) (by simp [results, Try.results76, go_sem, *]) rfl ?_
        refine HR.out _ ?_
        exact kept4 w4 _ _ _ _ _
    · have hlt' : ¬ (j : Int) < (n : Int) := by omega
      obtain ⟨⟨d0, d1, d2, d3⟩, f0, f1, f2, f3⟩ := blk4 hT
      have HR := Lib.hid (show ∀ W, Kept (fun j => j = w.heap.size) wr W → FoundP w0 w lp bp X R Y A n cs Z s bs most gone (foundT cs 0 bs) (.returned (.agg #[.int .i64 0, .int .i64 0, .slice none 0 0, .int .i64 0])) W from fun W hW => by
        have hs0 := H.out.buf.old.size
        rw [HFF.out, List.drop_of_length_le (by omega)]
        refine ⟨?_, HTS.out.keep hW (fun k hk => ?_) (fun k hk => by omega), (HK.out.mono (fun j _ hj => .inr hj)).trans hW (fun k hk => .inr (by omega))⟩
        · obtain ⟨A, m, c, e1, e2, e3, e4⟩ := zero_out W 0
          exact ⟨A, m, c, e1, e2, fun j hj => Nat.le_trans (Nat.le_trans HK.out.size hW.size) (e3 j hj), e4⟩
        · exact (H.out.new (Nat.le_refl _) k hk))
      clear hT ht hx hk hf
      go_wp2
      refine bodyPost_ret (v := .agg #[.int .i64 0, .int .i64 0, .slice none 0 0, .int .i64 0]) (by simp [results, Try.results76, go_sem, *]) rfl ?_
      exact HR.out _ (kept4 wr _ _ _ _ _)
end
end Go.Proofs.Ytgcbcdbfeaepkaa
