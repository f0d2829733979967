/- A law's call of a disk by its kind (does), for any state. -/
import Derived.Test.YteokiaeojgjpdaaUb
namespace Go.Proofs.Yteokiaeojgjpdaa
open Go.RowKit Go.Maps Go.Sort
set_option maxHeartbeats 1000000 in
set_option maxRecDepth 100000 in
theorem does1 {w : World} {dp : Nat} {X : Nat → Prop} {s : Sta} (h : Disk w dp X s) (ok : Ok s) (a z : ByteArray) (ha : a.size ≤ maxLen) (hz : z.size ≤ maxLen) (num : Int) {A : Option Addr} {m d : Nat} {bs : List UInt8} (hb : BytesAt w A m bs) (hm : m ≤ 400000000) (hdj : 0 < m → ∀ b o, A = some ⟨b, o, none⟩ → b ≠ dp) (K : Option Addr) (kn kc : Nat) :
    Calls Try.prog 25 #[.pointer (some ⟨dp, 0, none⟩), .agg #[.int .i64 1, .string a, .string z, .int .i64 num, .slice A m d, .slice K kn kc]] w (Res w dp X (createS a.data.toList s)) := by
  have bal : Below w.heap.size w (w.alloc (.cells #[.int .i64 1, .string a, .string z, .int .i64 num, .slice A m d, .slice K kn kc] 57)) := (Below.refl _ w).alloc (Nat.le_refl _) _
  have hD : Disk (w.alloc (.cells #[.int .i64 1, .string a, .string z, .int .i64 num, .slice A m d, .slice K kn kc] 57)) dp X s := h.keep fun j hj => bal.block j (h.lt hj)
  have hkp : Kept X w (w.alloc (.cells #[.int .i64 1, .string a, .string z, .int .i64 num, .slice A m d, .slice K kn kc] 57)) := (Kept.refl X w).alloc _
  have hbl := hb.1
  have C := Lib.hid (hD.create ok a ha)
  have HK := Lib.hid hkp
  generalize hx : createS a.data.toList s = x at C
  obtain ⟨cd, s2⟩ := x
  clear hx ok bal hD hkp hbl hb hdj h
  go_enter Try.func25, Try.ntmps25
  go_wp2_with fail
  refine C.out.mono ?_
  rintro e w1 ⟨rfl, ha⟩
  have FIN := Lib.hid (show Res w dp X (cd, s2) (.returned (.int .i64 cd)) w1 from ⟨rfl, ha.shift HK.out⟩)
  clear ha C
  go_wp2_with fail
  go_ret
  exact FIN.out
set_option maxHeartbeats 1000000 in
set_option maxRecDepth 100000 in
theorem does2 {w : World} {dp : Nat} {X : Nat → Prop} {s : Sta} (h : Disk w dp X s) (ok : Ok s) (a z : ByteArray) (ha : a.size ≤ maxLen) (hz : z.size ≤ maxLen) (num : Int) {A : Option Addr} {m d : Nat} {bs : List UInt8} (hb : BytesAt w A m bs) (hm : m ≤ 400000000) (hdj : 0 < m → ∀ b o, A = some ⟨b, o, none⟩ → b ≠ dp) (K : Option Addr) (kn kc : Nat) :
    Calls Try.prog 25 #[.pointer (some ⟨dp, 0, none⟩), .agg #[.int .i64 2, .string a, .string z, .int .i64 num, .slice A m d, .slice K kn kc]] w (Res w dp X (appendS a.data.toList bs s)) := by
  have bal : Below w.heap.size w (w.alloc (.cells #[.int .i64 2, .string a, .string z, .int .i64 num, .slice A m d, .slice K kn kc] 57)) := (Below.refl _ w).alloc (Nat.le_refl _) _
  have hD : Disk (w.alloc (.cells #[.int .i64 2, .string a, .string z, .int .i64 num, .slice A m d, .slice K kn kc] 57)) dp X s := h.keep fun j hj => bal.block j (h.lt hj)
  have hkp : Kept X w (w.alloc (.cells #[.int .i64 2, .string a, .string z, .int .i64 num, .slice A m d, .slice K kn kc] 57)) := (Kept.refl X w).alloc _
  have hbl := hb.1
  have C := Lib.hid (hD.append (c := d) ok a ha (hb.below bal) hdj (by omega))
  have HK := Lib.hid hkp
  generalize hx : appendS a.data.toList bs s = x at C
  obtain ⟨cd, s2⟩ := x
  clear hx ok bal hD hkp hbl hb hdj h
  go_enter Try.func25, Try.ntmps25
  go_wp2_with fail
  refine C.out.mono ?_
  rintro e w1 ⟨rfl, ha⟩
  have FIN := Lib.hid (show Res w dp X (cd, s2) (.returned (.int .i64 cd)) w1 from ⟨rfl, ha.shift HK.out⟩)
  clear ha C
  go_wp2_with fail
  go_ret
  exact FIN.out
set_option maxHeartbeats 1000000 in
set_option maxRecDepth 100000 in
theorem does3 {w : World} {dp : Nat} {X : Nat → Prop} {s : Sta} (h : Disk w dp X s) (ok : Ok s) (a z : ByteArray) (ha : a.size ≤ maxLen) (hz : z.size ≤ maxLen) (num : Int) {A : Option Addr} {m d : Nat} {bs : List UInt8} (hb : BytesAt w A m bs) (hm : m ≤ 400000000) (hdj : 0 < m → ∀ b o, A = some ⟨b, o, none⟩ → b ≠ dp) (K : Option Addr) (kn kc : Nat) :
    Calls Try.prog 25 #[.pointer (some ⟨dp, 0, none⟩), .agg #[.int .i64 3, .string a, .string z, .int .i64 num, .slice A m d, .slice K kn kc]] w (Res w dp X (syncS a.data.toList s)) := by
  have bal : Below w.heap.size w (w.alloc (.cells #[.int .i64 3, .string a, .string z, .int .i64 num, .slice A m d, .slice K kn kc] 57)) := (Below.refl _ w).alloc (Nat.le_refl _) _
  have hD : Disk (w.alloc (.cells #[.int .i64 3, .string a, .string z, .int .i64 num, .slice A m d, .slice K kn kc] 57)) dp X s := h.keep fun j hj => bal.block j (h.lt hj)
  have hkp : Kept X w (w.alloc (.cells #[.int .i64 3, .string a, .string z, .int .i64 num, .slice A m d, .slice K kn kc] 57)) := (Kept.refl X w).alloc _
  have hbl := hb.1
  have C := Lib.hid (hD.sync ok a ha)
  have HK := Lib.hid hkp
  generalize hx : syncS a.data.toList s = x at C
  obtain ⟨cd, s2⟩ := x
  clear hx ok bal hD hkp hbl hb hdj h
  go_enter Try.func25, Try.ntmps25
  go_wp2_with fail
  refine C.out.mono ?_
  rintro e w1 ⟨rfl, ha⟩
  have FIN := Lib.hid (show Res w dp X (cd, s2) (.returned (.int .i64 cd)) w1 from ⟨rfl, ha.shift HK.out⟩)
  clear ha C
  go_wp2_with fail
  go_ret
  exact FIN.out
set_option maxHeartbeats 1000000 in
set_option maxRecDepth 100000 in
theorem does4 {w : World} {dp : Nat} {X : Nat → Prop} {s : Sta} (h : Disk w dp X s) (ok : Ok s) (a z : ByteArray) (ha : a.size ≤ maxLen) (hz : z.size ≤ maxLen) (num : Int) {A : Option Addr} {m d : Nat} {bs : List UInt8} (hb : BytesAt w A m bs) (hm : m ≤ 400000000) (hdj : 0 < m → ∀ b o, A = some ⟨b, o, none⟩ → b ≠ dp) (K : Option Addr) (kn kc : Nat) :
    Calls Try.prog 25 #[.pointer (some ⟨dp, 0, none⟩), .agg #[.int .i64 4, .string a, .string z, .int .i64 num, .slice A m d, .slice K kn kc]] w (Res w dp X (renameS a.data.toList z.data.toList s)) := by
  have bal : Below w.heap.size w (w.alloc (.cells #[.int .i64 4, .string a, .string z, .int .i64 num, .slice A m d, .slice K kn kc] 57)) := (Below.refl _ w).alloc (Nat.le_refl _) _
  have hD : Disk (w.alloc (.cells #[.int .i64 4, .string a, .string z, .int .i64 num, .slice A m d, .slice K kn kc] 57)) dp X s := h.keep fun j hj => bal.block j (h.lt hj)
  have hkp : Kept X w (w.alloc (.cells #[.int .i64 4, .string a, .string z, .int .i64 num, .slice A m d, .slice K kn kc] 57)) := (Kept.refl X w).alloc _
  have hbl := hb.1
  have C := Lib.hid (hD.rename ok a z ha hz)
  have HK := Lib.hid hkp
  generalize hx : renameS a.data.toList z.data.toList s = x at C
  obtain ⟨cd, s2⟩ := x
  clear hx ok bal hD hkp hbl hb hdj h
  go_enter Try.func25, Try.ntmps25
  go_wp2_with fail
  refine C.out.mono ?_
  rintro e w1 ⟨rfl, ha⟩
  have FIN := Lib.hid (show Res w dp X (cd, s2) (.returned (.int .i64 cd)) w1 from ⟨rfl, ha.shift HK.out⟩)
  clear ha C
  go_wp2_with fail
  go_ret
  exact FIN.out
set_option maxHeartbeats 1000000 in
set_option maxRecDepth 100000 in
theorem does5 {w : World} {dp : Nat} {X : Nat → Prop} {s : Sta} (h : Disk w dp X s) (ok : Ok s) (a z : ByteArray) (ha : a.size ≤ maxLen) (hz : z.size ≤ maxLen) (num : Int) {A : Option Addr} {m d : Nat} {bs : List UInt8} (hb : BytesAt w A m bs) (hm : m ≤ 400000000) (hdj : 0 < m → ∀ b o, A = some ⟨b, o, none⟩ → b ≠ dp) (K : Option Addr) (kn kc : Nat) :
    Calls Try.prog 25 #[.pointer (some ⟨dp, 0, none⟩), .agg #[.int .i64 5, .string a, .string z, .int .i64 num, .slice A m d, .slice K kn kc]] w (Res w dp X (cutS a.data.toList num s)) := by
  have bal : Below w.heap.size w (w.alloc (.cells #[.int .i64 5, .string a, .string z, .int .i64 num, .slice A m d, .slice K kn kc] 57)) := (Below.refl _ w).alloc (Nat.le_refl _) _
  have hD : Disk (w.alloc (.cells #[.int .i64 5, .string a, .string z, .int .i64 num, .slice A m d, .slice K kn kc] 57)) dp X s := h.keep fun j hj => bal.block j (h.lt hj)
  have hkp : Kept X w (w.alloc (.cells #[.int .i64 5, .string a, .string z, .int .i64 num, .slice A m d, .slice K kn kc] 57)) := (Kept.refl X w).alloc _
  have hbl := hb.1
  have C := Lib.hid (hD.cut ok a ha num)
  have HK := Lib.hid hkp
  generalize hx : cutS a.data.toList num s = x at C
  obtain ⟨cd, s2⟩ := x
  clear hx ok bal hD hkp hbl hb hdj h
  go_enter Try.func25, Try.ntmps25
  go_wp2_with fail
  refine C.out.mono ?_
  rintro e w1 ⟨rfl, ha⟩
  have FIN := Lib.hid (show Res w dp X (cd, s2) (.returned (.int .i64 cd)) w1 from ⟨rfl, ha.shift HK.out⟩)
  clear ha C
  go_wp2_with fail
  go_ret
  exact FIN.out
set_option maxHeartbeats 1000000 in
set_option maxRecDepth 100000 in
theorem does6 {w : World} {dp : Nat} {X : Nat → Prop} {s : Sta} (h : Disk w dp X s) (ok : Ok s) (a z : ByteArray) (ha : a.size ≤ maxLen) (hz : z.size ≤ maxLen) (num : Int) {A : Option Addr} {m d : Nat} {bs : List UInt8} (hb : BytesAt w A m bs) (hm : m ≤ 400000000) (hdj : 0 < m → ∀ b o, A = some ⟨b, o, none⟩ → b ≠ dp) (K : Option Addr) (kn kc : Nat) :
    Calls Try.prog 25 #[.pointer (some ⟨dp, 0, none⟩), .agg #[.int .i64 6, .string a, .string z, .int .i64 num, .slice A m d, .slice K kn kc]] w (Res w dp X (removeS a.data.toList s)) := by
  have bal : Below w.heap.size w (w.alloc (.cells #[.int .i64 6, .string a, .string z, .int .i64 num, .slice A m d, .slice K kn kc] 57)) := (Below.refl _ w).alloc (Nat.le_refl _) _
  have hD : Disk (w.alloc (.cells #[.int .i64 6, .string a, .string z, .int .i64 num, .slice A m d, .slice K kn kc] 57)) dp X s := h.keep fun j hj => bal.block j (h.lt hj)
  have hkp : Kept X w (w.alloc (.cells #[.int .i64 6, .string a, .string z, .int .i64 num, .slice A m d, .slice K kn kc] 57)) := (Kept.refl X w).alloc _
  have hbl := hb.1
  have C := Lib.hid (hD.remove ok a ha)
  have HK := Lib.hid hkp
  generalize hx : removeS a.data.toList s = x at C
  obtain ⟨cd, s2⟩ := x
  clear hx ok bal hD hkp hbl hb hdj h
  go_enter Try.func25, Try.ntmps25
  go_wp2_with fail
  refine C.out.mono ?_
  rintro e w1 ⟨rfl, ha⟩
  have FIN := Lib.hid (show Res w dp X (cd, s2) (.returned (.int .i64 cd)) w1 from ⟨rfl, ha.shift HK.out⟩)
  clear ha C
  go_wp2_with fail
  go_ret
  exact FIN.out
end Go.Proofs.Yteokiaeojgjpdaa
