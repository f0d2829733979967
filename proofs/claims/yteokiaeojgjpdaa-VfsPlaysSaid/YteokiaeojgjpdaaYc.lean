/- The document's own files: a row that grows; without, With. -/
import Derived.Test.YteokiaeojgjpdaaYb
namespace Go.Proofs.Yteokiaeojgjpdaa
open Go.RowKit Go.Maps

theorem file_info : (Try.prog.info? 130).map (fun i => (i.zero, i.size, i.bytes)) = some (some (.agg #[.string ByteArray.empty, .slice none 0 0, .int .i64 0]), 3, 48) := by kernel_rfl
theorem flat_len (fs : List FR) : (fs.flatMap FR.cells).length = fs.length * 3 := by
  induction fs with
  | nil => rfl
  | cons f r ih => rw [List.flatMap_cons, List.length_append, ih, List.length_cons, Nat.succ_mul, Nat.add_comm]; rfl
theorem flat_at : ∀ {fs : List FR} {i : Nat} {f : FR}, fs[i]? = some f → ∀ r, r < 3 → (fs.flatMap FR.cells)[i * 3 + r]? = f.cells[r]?
  | [], i, f, h, _, _ => by simp at h
  | x :: fs, 0, f, h, r, hr => by
    obtain rfl := Option.some.inj h
    rw [List.flatMap_cons, List.getElem?_append_left (by show 0 * 3 + r < 3; omega), Nat.zero_mul, Nat.zero_add]
  | x :: fs, i + 1, f, h, r, hr => by
    rw [List.flatMap_cons, List.getElem?_append_right (by show 3 ≤ _; omega), show (i + 1) * 3 + r - x.cells.length = i * 3 + r by show (i + 1) * 3 + r - 3 = _; omega]
    exact flat_at (fs := fs) h r hr
theorem flat_snoc (fs : List FR) (f : FR) : (fs ++ [f]).flatMap FR.cells = fs.flatMap FR.cells ++ f.cells := by simp
/-- A row of the call's own holds these files. -/
def OutAt (w : World) (B : Nat) (v : Value) (fs : List FR) : Prop := w.ownsRow B 130 3 v fs.length (fs.flatMap FR.cells)
theorem OutAt.below {w w' : World} {B : Nat} {v : Value} {fs : List FR} (h : OutAt w B v fs) (hb : Below w.heap.size w w') : OutAt w' B v fs := by
  refine ⟨h.1, ?_⟩
  rcases h.2 with h0 | ⟨g, cap, cur, e, h1, h2, h3⟩
  · exact .inl h0
  · exact .inr ⟨g, cap, cur, e, h1, (hb.block g (Array.getElem?_eq_some_iff.1 h2).1).trans h2, h3⟩
theorem OutAt.shape {w : World} {B : Nat} {v : Value} {fs : List FR} (h : OutAt w B v fs) : ∃ A c, v = .slice A fs.length c := by
  rcases h.2 with ⟨e, h0⟩ | ⟨g, cap, cur, e, _⟩
  · exact ⟨none, 0, by rw [h0]; exact e⟩
  · exact ⟨_, cap, e⟩
theorem OutAt.ref {w : World} {B : Nat} {Y : Nat → Prop} {A : Option Addr} {n c : Nat} {fs : List FR} (h : OutAt w B (.slice A n c) fs) (hf : ∀ f ∈ fs, FOk w Y f) (hY : ∀ b, B ≤ b → b < w.heap.size → Y b) : n = fs.length ∧ RefAt w Y A n fs := by
  rcases h.2 with ⟨e, h0⟩ | ⟨g, cap, cur, e, h1, h2, h3, h4, h5, h6⟩
  · injection e with e1 e2 e3
    refine ⟨by omega, by omega, hf, fun hn => by omega⟩
  · injection e with e1 e2 e3
    subst e1 e2 e3
    refine ⟨rfl, rfl, hf, fun hn => ⟨g, 0, rfl, hY g h1 (Array.getElem?_eq_some_iff.1 h2).1, (Array.getElem?_eq_some_iff.1 h2).1, fun i f hi => ?_⟩⟩
    have hl := (List.getElem?_eq_some_iff.1 hi).1
    have key : ∀ r, r < 3 → w.cell? ⟨g, 0 + i * 3 + r, none⟩ = f.cells[r]? := fun r hr => by
      rw [cell_of_row w g (0 + i * 3 + r) cur 130 (0, 0) h2, ← flat_at hi r hr, Nat.zero_add, ← h6, List.getElem?_take_of_lt (by omega), Array.getElem?_toList]
    exact ⟨key 0 (by decide), key 1 (by decide), key 2 (by decide)⟩
theorem put_file {W : World} {v : Value} {fs : List FR} {B : Nat} (ty : TypeId) (ho : OutAt W B v fs) (hB : B ≤ W.heap.size) (f : FR) (hl : fs.length + 1 ≤ 1000000000) :
    ∃ A' c' W', (Builtin.append_ #[51, 51] ty #[v, .slice (some ⟨W.heap.size, 0, none⟩) 1 1]).run Try.prog (W.alloc (.cells #[.string ⟨f.nm.toArray⟩, .slice f.B f.bs.length f.c, .int .i64 (f.sf : Nat)] 130)) = .ok (.slice A' (fs.length + 1) c') W' ∧ OutAt W' B (.slice A' (fs.length + 1) c') (fs ++ [f]) ∧ Below B W W' := by
  obtain ⟨i0, hi0, hz0, hz1, hz2⟩ := info_parts file_info
  have hal : Below W.heap.size W (W.alloc (.cells #[.string ⟨f.nm.toArray⟩, .slice f.B f.bs.length f.c, .int .i64 (f.sf : Nat)] 130)) := (Below.refl _ W).alloc (Nat.le_refl _) _
  have ho2 := ho.below hal
  have hnew : ∀ j u, f.cells[j]? = some u → (W.alloc (.cells #[.string ⟨f.nm.toArray⟩, .slice f.B f.bs.length f.c, .int .i64 (f.sf : Nat)] 130)).cell? ((⟨W.heap.size, 0, none⟩ : Addr).add j) = some u := fun j u hu => by
    have hb := (Blk.new W 130 #[.string ⟨f.nm.toArray⟩, .slice f.B f.bs.length f.c, .int .i64 (f.sf : Nat)]).cell j
    have : (⟨W.heap.size, 0, none⟩ : Addr).add j = ⟨W.heap.size, j, none⟩ := by unfold Addr.add; split <;> simp_all
    rw [this, hb, ← hu, ← List.getElem?_toArray]
    rfl
  obtain ⟨v', w', h1, h2, h3, _, h5⟩ := run_append_own_at (P := Try.prog) (W.alloc (.cells #[.string ⟨f.nm.toArray⟩, .slice f.B f.bs.length f.c, .int .i64 (f.sf : Nat)] 130)) B 51 ty 130 i0 _ 3 48 Try.underlying51 hi0 hz0 hz1 hz2 rfl (by decide) v fs.length (fs.flatMap FR.cells) ho2 ⟨W.heap.size, 0, none⟩ 1 1 f.cells rfl hnew
    (fun u hu => by
      unfold FR.cells at hu
      rcases List.mem_cons.1 hu with rfl | hu
      · rfl
      · rcases List.mem_cons.1 hu with rfl | hu
        · rfl
        · obtain rfl := List.mem_singleton.1 hu; rfl) (by unfold maxLen; omega) (by omega) (Nat.le_trans hB hal.size)
  rw [← flat_snoc] at h2
  have hO : OutAt w' B v' (fs ++ [f]) := by unfold OutAt; rw [List.length_append]; exact h2
  obtain ⟨A', c', e⟩ := hO.shape
  rw [List.length_append] at e
  subst e
  refine ⟨A', c', w', h1, hO, (hal.mono hB).trans ⟨h3.os, h3.tape, h3.output, h3.size, fun j hj => h3.block j (Nat.lt_of_lt_of_le hj (Nat.le_trans hB hal.size)) (fun e => ?_)⟩⟩
  have := (World.ownsRow.lt (show W.ownsRow B 130 3 v fs.length (fs.flatMap FR.cells) from ho) j e.symm).1
  omega
theorem vdel_snoc {nm : List UInt8} {V : FV} {j : Nat} {t : T3} (h : V[j]? = some t) : vdel nm (V.take (j + 1)) = vdel nm (V.take j) ++ (if t.1 = nm then [] else [t]) := by
  rw [(take_succ_at h).1]
  unfold vdel
  rw [List.filter_append]
  by_cases e : t.1 = nm
  · rw [if_pos e]; simp [e]
  · rw [if_neg e]; simp [e]
/-- What a call that makes the document's disk anew answers. -/
def FsPost (w : World) (Y : Nat → Prop) (most fuse : Int) (down : Bool) (V : FV) (e : Ending) (w' : World) : Prop :=
  ∃ A n c fs, e = .returned (.agg #[.slice A n c, .int .i64 most, .int .i64 fuse, .bool down]) ∧ RefAt w' (fun b => Y b ∨ (w.heap.size ≤ b ∧ b < w'.heap.size)) A n fs ∧ fs.map FR.t = V ∧ Below w.heap.size w w'
theorem OutAt.set_ {w : World} {B : Nat} {v : Value} {fs : List FR} (h : OutAt w B v fs) {p : Addr} (hp : p.block < B) (u : Value) : OutAt (w.setCell p u) B v fs := by
  refine ⟨h.1, ?_⟩
  rcases h.2 with h0 | ⟨g, cap, cur, e, h1, h2, h3⟩
  · exact .inl h0
  · exact .inr ⟨g, cap, cur, e, h1, (Below.heap_setCell w p u g (by omega)).trans h2, h3⟩
theorem fs_fin {w W : World} {Y : Nat → Prop} {B : Nat} {most fuse : Int} {down : Bool} {V : FV} {A : Option Addr} {n c : Nat} {out : List FR} (hB : Below w.heap.size w W) (hO : OutAt W B (.slice A n c) out) (hwB : w.heap.size ≤ B) (hin : ∀ f ∈ out, FOk w Y f) (hY : Low w.heap.size Y) (hV : out.map FR.t = V) :
    FsPost w Y most fuse down V (.returned (.agg #[.slice A n c, .int .i64 most, .int .i64 fuse, .bool down])) W := by
  obtain ⟨e, hr⟩ := hO.ref (Y := fun b => Y b ∨ (w.heap.size ≤ b ∧ b < W.heap.size)) (fun f hf => ((hin f hf).below hY hB).mono fun b hb => .inl hb) (fun b h1 h2 => .inr ⟨by omega, h2⟩)
  exact ⟨A, n, c, out, rfl, hr, hV, hB⟩
set_option maxHeartbeats 2000000 in
set_option maxRecDepth 100000 in
theorem without_any {w : World} {Y : Nat → Prop} {A : Option Addr} {n c : Nat} {fs : List FR} (h : RefAt w Y A n fs) (hY : Low w.heap.size Y) (hn : n ≤ 900000000) (most fuse : Int) (down : Bool) (s : ByteArray) :
    Calls Try.prog 74 #[.agg #[.slice A n c, .int .i64 most, .int .i64 fuse, .bool down], .string s] w (FsPost w Y most fuse down (vdel s.data.toList (fs.map FR.t))) := by
  have hfl := h.1
  have H := Lib.hid h
  have b1 := (Below.refl w.heap.size w).alloc (Nat.le_refl _) (.cells #[.slice A n c, .int .i64 most, .int .i64 fuse, .bool down] 53)
  clear h
  obtain ⟨W0, hW0⟩ : ∃ W0, W0 = (((w.alloc (.cells #[.slice A n c, .int .i64 most, .int .i64 fuse, .bool down] 53)).alloc (.cells #[.slice none 0 0, .int .i64 0, .int .i64 0, .bool false] 53)).alloc (.cells #[] 130)) := ⟨_, rfl⟩
  have hs0 : W0.heap.size = w.heap.size + 3 := by rw [hW0]; simp
  have b0 : Below w.heap.size w W0 := by
    rw [hW0]
    have h2 := b1.alloc b1.size (.cells #[.slice none 0 0, .int .i64 0, .int .i64 0, .bool false] 53)
    exact h2.alloc h2.size _
  have k1 : Blk W0 w.heap.size 53 #[.slice A n c, .int .i64 most, .int .i64 fuse, .bool down] := by rw [hW0]; exact ((Blk.new w 53 _).alloc _).alloc _
  have k2 : Blk W0 (w.heap.size + 1) 53 #[.slice none 0 0, .int .i64 0, .int .i64 0, .bool false] := by
    rw [hW0]
    have := (Blk.new (w.alloc (.cells #[.slice A n c, .int .i64 most, .int .i64 fuse, .bool down] 53)) 53 #[.slice none 0 0, .int .i64 0, .int .i64 0, .bool false]).alloc (.cells #[] 130)
    simpa using this
  have o0 : OutAt W0 (w.heap.size + 2) (.slice (some ⟨w.heap.size + 1 + 1, 0, none⟩) 0 0) [] := by
    rw [hW0]
    refine ⟨rfl, .inr ⟨w.heap.size + 2, 0, #[], rfl, Nat.le_refl _, ?_, Nat.le_refl _, Nat.zero_le _, rfl, rfl⟩⟩
    have := heap_alloc_new ((w.alloc (.cells #[.slice A n c, .int .i64 most, .int .i64 fuse, .bool down] 53)).alloc (.cells #[.slice none 0 0, .int .i64 0, .int .i64 0, .bool false] 53)) (.cells #[] 130)
    simpa using this
  have K1 := Lib.hid k1
  have K2 := Lib.hid k2
  have B0 := Lib.hid b0
  have O0 := Lib.hid o0
  clear k1 k2 b0 b1 o0
  go_enter Try.func74, Try.ntmps74
  go_wp2_with fail
  rw [← hW0]
  clear hW0
  go_loopw [5, 6] (fun v i wr => ∃ (j : Nat) (out : List FR), j ≤ n ∧ out.length ≤ j ∧ i = .int .i64 (j : Nat) ∧ OutAt wr (w.heap.size + 2) v out ∧ out.map FR.t = vdel s.data.toList ((fs.map FR.t).take j) ∧ (∀ f ∈ out, f ∈ fs) ∧ Below (w.heap.size + 2) W0 wr) (fun _ i _ => n - (intOf i).toNat)
  case atStart => exact ⟨0, [], Nat.zero_le _, Nat.zero_le _, rfl, O0.out, rfl, (fun f hf => nomatch hf), Below.refl _ _⟩
  case round =>
    clear O0
    obtain ⟨j, out, hj, hol, rfl, ho, hV, hsub, hb⟩ := hrel
    have hbs := hb.size
    obtain ⟨Av, cv, ev⟩ := ho.shape
    subst ev
    have k1 : Blk wr w.heap.size 53 #[.slice A n c, .int .i64 most, .int .i64 fuse, .bool down] := K1.out.below hb (by omega)
    have k2 : Blk wr (w.heap.size + 1) 53 #[.slice none 0 0, .int .i64 0, .int .i64 0, .bool false] := K2.out.below hb (by omega)
    obtain ⟨q0, q1, q2, q3, -, -, -⟩ := blk4 k1
    have HB := Lib.hid (B0.out.trans (hb.mono (by omega)))
    have HO := Lib.hid ho
    have H0 := Lib.hid hb
    by_cases hlt : j < n
    · have hlt' : (j : Int) < (n : Int) := by omega
      have hj0 : (0 : Int) ≤ (j : Int) := by omega
      obtain ⟨b, o, rfl, hYb, hbl, hc⟩ := H.out.2.2 (by omega)
      obtain ⟨f, hf⟩ : ∃ f, fs[j]? = some f := ⟨fs[j]'(by omega), List.getElem?_eq_getElem _⟩
      have hmf : f ∈ fs := List.mem_of_getElem? hf
      have hft : (fs.map FR.t)[j]? = some f.t := by rw [List.getElem?_map, hf]; rfl
      have hsn := vdel_snoc (nm := s.data.toList) hft
      have y0 : wr.cell? ⟨b, o + j * 3, none⟩ = some (.string ⟨f.nm.toArray⟩) := by
        rw [HB.out.cell (p := ⟨b, o + j * 3, none⟩) hbl]; exact (hc j f hf).1
      have y1 : wr.cell? ⟨b, o + j * 3 + 1, none⟩ = some (.slice f.B f.bs.length f.c) := by
        rw [HB.out.cell (p := ⟨b, o + j * 3 + 1, none⟩) hbl]; exact (hc j f hf).2.1
      have y2 : wr.cell? ⟨b, o + j * 3 + 2, none⟩ = some (.int .i64 (f.sf : Nat)) := by
        rw [HB.out.cell (p := ⟨b, o + j * 3 + 2, none⟩) hbl]; exact (hc j f hf).2.2
      clear hc hf hft ho hb k1 k2
      by_cases he : f.nm = s.data.toList
      · have HV := Lib.hid (show out.map FR.t = vdel s.data.toList ((fs.map FR.t).take (j + 1)) by rw [hsn, if_pos (show f.t.1 = _ from he), List.append_nil]; exact hV)
        rw [str_of he] at y0
        have hbe : (s.toList == s.toList) = true := by simp
        clear he hsn hV
        go_wp2
        go_roundw
        case rel => exact ⟨j + 1, out, by omega, by omega, by go_num, HO.out, HV.out, hsub, H0.out⟩
        case measure => simp [intOf]; omega
      · have HV := Lib.hid (show (out ++ [f]).map FR.t = vdel s.data.toList ((fs.map FR.t).take (j + 1)) by rw [hsn, if_neg (show ¬ f.t.1 = _ from he), List.map_append, hV]; rfl)
        have hs := str_ne he
        obtain ⟨A', c', W', hrun, ho', hb'⟩ := put_file (W := wr) 51 HO.out (by omega) f (by omega)
        have HRUN := Lib.hid hrun
        have HO' := Lib.hid ho'
        have HB' := Lib.hid (H0.out.trans hb')
        have HS := Lib.hid (show ∀ g ∈ out ++ [f], g ∈ fs by
          intro g hg
          rcases List.mem_append.1 hg with h1 | h1
          · exact hsub g h1
          · rw [List.mem_singleton.1 h1]; exact hmf)
        clear he hsn hV hrun ho' hb' hsub
        generalize (⟨f.nm.toArray⟩ : ByteArray) = sa at *
        go_wp2_with (at_builtin; refine wpList_append_run rfl (.tmp 23) (.tmp 29) 51 rfl _ _ _ rfl rfl HRUN.out ?_)
        go_roundw
        case rel => exact ⟨j + 1, out ++ [f], by omega, by simp; omega, by go_num, by simpa using HO'.out, HV.out, HS.out, HB'.out⟩
        case measure => simp [intOf]; omega
    · have hlt' : ¬ (j : Int) < (n : Int) := by omega
      rw [List.take_of_length_le (by rw [List.length_map]; omega)] at hV
      have HV := Lib.hid hV
      have HS := Lib.hid hsub
      have f0 := k1.frozen 0
      obtain ⟨r0, r1, r2, r3, -, -, -⟩ := blk4 k2
      have g0 := k2.frozen 0
      have g1 := k2.frozen 1
      have g2 := k2.frozen 2
      have g3 := k2.frozen 3
      have K3 := Lib.hid k1
      clear hV hsub ho hb k1 k2
      have b2 := (((((HB.out.setCell (p := ⟨w.heap.size, 0, none⟩) (Nat.le_refl _) (.slice Av out.length cv)).setCell (p := ⟨w.heap.size + 1, 0, none⟩) (Nat.le_succ _) (.slice Av out.length cv)).setCell (p := ⟨w.heap.size + 1, 1, none⟩) (Nat.le_succ _) (.int .i64 most)).setCell (p := ⟨w.heap.size + 1, 2, none⟩) (Nat.le_succ _) (.int .i64 fuse)).setCell (p := ⟨w.heap.size + 1, 3, none⟩) (Nat.le_succ _) (.bool down))
      have o2 := (((((HO.out.set_ (p := ⟨w.heap.size, 0, none⟩) (show w.heap.size < w.heap.size + 2 by omega) (.slice Av out.length cv)).set_ (p := ⟨w.heap.size + 1, 0, none⟩) (Nat.lt_succ_self _) (.slice Av out.length cv)).set_ (p := ⟨w.heap.size + 1, 1, none⟩) (Nat.lt_succ_self _) (.int .i64 most)).set_ (p := ⟨w.heap.size + 1, 2, none⟩) (Nat.lt_succ_self _) (.int .i64 fuse)).set_ (p := ⟨w.heap.size + 1, 3, none⟩) (Nat.lt_succ_self _) (.bool down))
      have FIN := Lib.hid (fs_fin (most := most) (fuse := fuse) (down := down) b2 o2 (by omega) (fun f hf => H.out.2.1 f (HS.out f hf)) hY HV.out)
      clear b2 o2
      go_wp2
      refine bodyPost_ret (v := .agg #[.slice Av out.length cv, .int .i64 most, .int .i64 fuse, .bool down]) (by simp [results, Try.results74, go_sem, *]) rfl ?_
      exact FIN.out
end Go.Proofs.Yteokiaeojgjpdaa
