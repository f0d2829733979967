/- The disk's calls, over its state alone. -/
import Derived.Test.YtdhiofbimebbkaaDoorVh
import Derived.Test.YtdhiofbimebbkaaDoorVi
import Derived.Test.YtdhiofbimebbkaaDoorVn
import Derived.Lib.SlBytesConst
import Derived.Laws.BytesArg
namespace Go.Proofs.YtdhiofbimebbkaaDoor
open Go.RowKit Go.Maps Go.Sort

/-- A state within what the walks ask. -/
structure Ok (s : Sta) : Prop where
  len : s.V.length ≤ 1000000
  bytes : tot s.V ≤ 500000000
  room : s.free + tot s.V ≤ 9223372036854775807
  fuse : s.fuse ≤ 9223372036854775807
  names : ∀ t ∈ s.V, t.1.length ≤ 40
section
variable {w : World} {dp : Nat} {X : Nat → Prop} {s : Sta}
theorem Disk.open_ (h : Disk w dp X s) : ∃ bm M, FsAt w dp bm M s.free s.fuse s.down ∧ s = ⟨M.map vw, s.free, s.fuse, s.down⟩ ∧ X = Own dp bm M := by
  obtain ⟨bm, M, hF, hV, hX⟩ := h
  exact ⟨bm, M, hF, by cases s; simp only at hV; rw [hV], hX⟩
theorem mem_tot {M : List Fl} {f : Fl} (hf : f ∈ M) : f.bytes.length ≤ tot (M.map vw) := tot_mem (V := M.map vw) (List.mem_map.2 ⟨f, hf, rfl⟩)
theorem Disk.create (h : Disk w dp X s) (ok : Ok s) (nm : ByteArray) (hn : nm.size ≤ maxLen) : Calls Tryd.prog 15 #[.pointer (some ⟨dp, 0, none⟩), .string nm] w (Res w dp X (createS nm.data.toList s)) := by
  obtain ⟨bm, M, hF, hs, rfl⟩ := h.open_
  have h1 := ok.len
  rw [hs] at h1 ⊢
  exact create_any hF nm hn (by unfold maxLen; simp only [List.length_map] at h1; omega) ok.fuse
theorem Disk.append (h : Disk w dp X s) (ok : Ok s) (nm : ByteArray) (hn : nm.size ≤ maxLen) {A : Option Addr} {m c : Nat} {bs : List UInt8} (hb : BytesAt w A m bs) (hdj : 0 < m → ∀ b o, A = some ⟨b, o, none⟩ → b ≠ dp) (hml : m ≤ 500000000) :
    Calls Tryd.prog 16 #[.pointer (some ⟨dp, 0, none⟩), .string nm, .slice A m c] w (Res w dp X (appendS nm.data.toList bs s)) := by
  obtain ⟨bm, M, hF, hs, rfl⟩ := h.open_
  have h1 := ok.bytes
  have h2 := ok.room
  rw [hs] at h1 ⊢
  refine append_any hF nm hn hb hdj (by omega) (fun f hf => ?_) (by omega) ok.fuse
  have := mem_tot hf
  simp only at h1
  omega
theorem Disk.sync (h : Disk w dp X s) (ok : Ok s) (nm : ByteArray) (hn : nm.size ≤ maxLen) : Calls Tryd.prog 24 #[.pointer (some ⟨dp, 0, none⟩), .string nm] w (Res w dp X (syncS nm.data.toList s)) := by
  obtain ⟨bm, M, hF, hs, rfl⟩ := h.open_
  rw [hs]
  exact sync_any hF nm hn ok.fuse
theorem Disk.room_le (ok : Ok s) {M : List Fl} (hs : s = ⟨M.map vw, s.free, s.fuse, s.down⟩) : ∀ f ∈ M, s.free + f.bytes.length ≤ 9223372036854775807 := fun f hf => by
  have h1 := mem_tot hf
  have h2 := ok.room
  rw [congrArg Sta.V hs] at h2
  simp only at h2
  omega
theorem Disk.cut (h : Disk w dp X s) (ok : Ok s) (nm : ByteArray) (hn : nm.size ≤ maxLen) (n : Int) : Calls Tryd.prog 23 #[.pointer (some ⟨dp, 0, none⟩), .string nm, .int .i64 n] w (Res w dp X (cutS nm.data.toList n s)) := by
  obtain ⟨bm, M, hF, hs, rfl⟩ := h.open_
  have h3 := Disk.room_le ok hs
  rw [hs]
  exact cut_any hF nm hn n h3 ok.fuse
theorem Disk.remove (h : Disk w dp X s) (ok : Ok s) (nm : ByteArray) (hn : nm.size ≤ maxLen) : Calls Tryd.prog 20 #[.pointer (some ⟨dp, 0, none⟩), .string nm] w (Res w dp X (removeS nm.data.toList s)) := by
  obtain ⟨bm, M, hF, hs, rfl⟩ := h.open_
  have h3 := Disk.room_le ok hs
  rw [hs]
  exact remove_any hF nm hn h3 ok.fuse
def ReadPost (w : World) (r : Int × List UInt8) (e : Ending) (w' : World) : Prop := ∃ v, e = .returned (.tuple #[v, .int .i64 r.1]) ∧ w'.ownsRow w.heap.size 5 1 v r.2.length (r.2.map u8V) ∧ Below w.heap.size w w'
theorem Disk.read (h : Disk w dp X s) (ok : Ok s) (nm : ByteArray) (hn : nm.size ≤ maxLen) : Calls Tryd.prog 40 #[.pointer (some ⟨dp, 0, none⟩), .string nm] w (ReadPost w (readS nm.data.toList s)) := by
  obtain ⟨bm, M, hF, hs, rfl⟩ := h.open_
  have h1 := ok.bytes
  rw [hs] at h1 ⊢
  refine read_any hF nm hn (fun f hf => ?_)
  have := mem_tot hf
  simp only at h1
  omega
def NamesPost (w : World) (ns : List (List UInt8)) (e : Ending) (w' : World) : Prop := ∃ v, e = .returned v ∧ w'.ownsRow w.heap.size 9 1 v ns.length (ns.map encStr) ∧ Below w.heap.size w w'
theorem Disk.names (h : Disk w dp X s) (ok : Ok s) : Calls Tryd.prog 28 #[.pointer (some ⟨dp, 0, none⟩)] w (NamesPost w (s.V.map fun t => t.1)) := by
  obtain ⟨bm, M, hF, hs, rfl⟩ := h.open_
  have h1 := ok.len
  rw [congrArg Sta.V hs] at h1 ⊢
  simp only [List.length_map] at h1
  refine (names_any hF (by omega)).mono ?_
  rintro e w' ⟨v, rfl, hr, hb⟩
  refine ⟨v, rfl, ?_, hb⟩
  have e1 : (M.map vw).map (fun t => t.1) = M.map Fl.name := by rw [List.map_map]; rfl
  simp only at e1 ⊢
  rw [e1, List.length_map]
  exact hr
theorem Disk.room (h : Disk w dp X s) : Calls Tryd.prog 19 #[.pointer (some ⟨dp, 0, none⟩)] w fun e w' => e = .returned (.int .i64 (s.free : Nat)) ∧ w = w' := by
  obtain ⟨bm, M, hF, hs, rfl⟩ := h.open_
  exact room_any hF
theorem Disk.crash (h : Disk w dp X s) (ok : Ok s) (A : Option Addr) (n c : Nat) (ks : List Int) (hk : IntsAt w A n ks) (hnk : n ≤ 9223372036854775807) (hka : 0 < n → ∀ b o, A = some ⟨b, o, none⟩ → ¬ X b) :
    Calls Tryd.prog 11 #[.pointer (some ⟨dp, 0, none⟩), .slice A n c] w fun e w' => e = .returned (.tuple #[]) ∧ After w dp X (crashS ks s) w' := by
  obtain ⟨bm, M, hF, hs, rfl⟩ := h.open_
  have h1 := ok.len
  have h2 := ok.room
  have h3 := ok.names
  rw [congrArg Sta.V hs] at h1 h2 h3
  simp only [List.length_map] at h1 h2 h3
  have := crash_any hF A n c ks hk hnk hka (by omega) (fun f hf => Nat.le_trans (h3 _ (List.mem_map.2 ⟨f, hf, rfl⟩)) (by decide)) h2
  rw [← hs] at this
  exact this
end
/-- The disk that the law itself has made, and nothing older has turned. -/
structure DB (w0 w : World) (dp : Nat) (X : Nat → Prop) (s : Sta) : Prop where
  disk : Disk w dp X s
  own : ∀ j, X j → w0.heap.size ≤ j
  old : Below w0.heap.size w0 w
section
variable {w0 w w' : World} {dp : Nat} {X : Nat → Prop} {s s' : Sta}
theorem DB.after (h : DB w0 w dp X s) (ha : After w dp X s' w') : ∃ X', DB w0 w' dp X' s' ∧ (∀ j, X' j → X j ∨ w.heap.size ≤ j) ∧ Kept X w w' := by
  obtain ⟨X', h1, h2, h3⟩ := ha
  have hs := h.old.size
  refine ⟨X', ⟨h1, fun j hj => ?_, h.old.trans (h3.below hs h.own)⟩, h2, h3⟩
  rcases h2 j hj with h4 | h4
  · exact h.own j h4
  · omega
theorem DB.below (h : DB w0 w dp X s) (hb : Below w.heap.size w w') : DB w0 w' dp X s :=
  ⟨h.disk.keep fun j hj => hb.block j (h.disk.lt hj), h.own, h.old.trans (hb.mono h.old.size)⟩
theorem DB.alloc (h : DB w0 w dp X s) (o : Obj) : DB w0 (w.alloc o) dp X s := h.below ((Below.refl _ w).alloc (Nat.le_refl _) o)
theorem DB.at_ (h : DB w0 w dp X s) : w0.heap.size ≤ dp ∧ dp < w.heap.size := by
  obtain ⟨bm, M, hF, _, hX⟩ := h.disk
  refine ⟨h.own dp ?_, hF.top.lt⟩
  rw [hX]; exact .inl rfl
end
theorem new_disk (room : Int) (w : World) : Calls Tryd.prog 6 #[.int .i64 room] w fun e w' => ∃ dp X, e = .returned (.pointer (some ⟨dp, 0, none⟩)) ∧ DB w w' dp X ⟨[], posP room, 0, false⟩ := by
  refine (new_any room w).mono ?_
  rintro e w' ⟨rfl, hF, hb, _⟩
  refine ⟨_, _, rfl, ⟨_, [], hF, rfl, rfl⟩, fun j hj => ?_, hb⟩
  rcases hj with rfl | rfl | ⟨f, hf, _⟩
  · omega
  · exact Nat.le_refl _
  · cases hf
end Go.Proofs.YtdhiofbimebbkaaDoor
