/- The contracts of the functions that the laws of this seat call (runes.Join, runes.Encode, isPoint, alive, the document's Point and Encode): what each call returns, in any world. -/
import Derived.Test.YtnlpdpbmmpeiaaaDoorRows
import Derived.Test.YtnlpdpbmmpeiaaaDoorMath
import Derived.WalkKit
import Derived.WalkSpells
import Derived.WalkLawsBesides
namespace Go.Proofs.YtnlpdpbmmpeiaaaDoor
open Go.RowKit

theorem ret_bool {a b : Bool} (h : a = b) : Ending.returned (.bool a) = .returned (.bool b) := by rw [h]

set_option maxHeartbeats 400000 in
theorem isPoint_yes (r : Int) (w : World) (h : isPt r) :
    Calls Tryd.prog 70 #[.int .i64 r] w fun e w' => e = .returned (.bool true) ∧ w = w' := by
  rcases h with ⟨h1, h2⟩ | ⟨h1, h2⟩
  all_goals
    go_enter Tryd.func70, Tryd.ntmps70
    go_wp2
    go_ret
    exact ⟨rfl, rfl⟩

set_option maxHeartbeats 400000 in
theorem isPoint_no (r : Int) (w : World) (h : ¬ isPt r) :
    Calls Tryd.prog 70 #[.int .i64 r] w fun e w' => e = .returned (.bool false) ∧ w = w' := by
  have h' : r < 0 ∨ (55296 ≤ r ∧ r ≤ 57343) ∨ 1114112 ≤ r := by unfold isPt at h; omega
  clear h
  rcases h' with h1 | ⟨h1, h2⟩ | h1
  all_goals
    go_enter Tryd.func70, Tryd.ntmps70
    go_wp2
    go_ret
    exact ⟨ret_bool (by simp; try omega), rfl⟩

set_option maxHeartbeats 400000 in
theorem encode_yes (r : Int) (w : World) (h : isPt r) :
    Calls Tryd.prog 60 #[.int .i64 r] w fun e w' => e = .returned (.tuple #[.string (strOfNums (encZ r)), .bool true]) ∧ w = w' := by
  have hb : 0 ≤ r ∧ r ≤ 1114111 := by unfold isPt at h; omega
  obtain ⟨hb1, hb2⟩ := hb
  rw [← enc_eq r h]
  go_enter Tryd.func60, Tryd.ntmps60
  go_wp2_with (go_at_call 70; refine (isPoint_yes _ _ h).mono ?_; rintro e w' ⟨rfl, rfl⟩)
  go_ret2
  exact ⟨rfl, rfl⟩

set_option maxHeartbeats 400000 in
theorem encode_no (r : Int) (w : World) (h : ¬ isPt r) :
    Calls Tryd.prog 60 #[.int .i64 r] w fun e w' => e = .returned (.tuple #[.string ⟨#[]⟩, .bool false]) ∧ w = w' := by
  go_enter Tryd.func60, Tryd.ntmps60
  go_wp2_with (go_at_call 70; refine (isPoint_no _ _ h).mono ?_; rintro e w' ⟨rfl, rfl⟩)
  go_ret2
  exact ⟨rfl, rfl⟩

set_option maxHeartbeats 400000 in
theorem join_yes (a b : Int) (w : World) (h1 : 55296 ≤ a) (h2 : a < 56320) (h3 : 56320 ≤ b) (h4 : b ≤ 57343) :
    Calls Tryd.prog 61 #[.int .i64 a, .int .i64 b] w fun e w' => e = .returned (.tuple #[.int .i64 (65536 + (a - 55296) * 1024 + (b - 56320)), .bool true]) ∧ w = w' := by
  go_enter Tryd.func61, Tryd.ntmps61
  go_wp2
  go_ret2
  exact ⟨rfl, rfl⟩

set_option maxHeartbeats 400000 in
theorem join_no (a b : Int) (w : World) (h : a < 55296 ∨ 56320 ≤ a ∨ b < 56320 ∨ 57343 < b) :
    Calls Tryd.prog 61 #[.int .i64 a, .int .i64 b] w fun e w' => e = .returned (.tuple #[.int .i64 0, .bool false]) ∧ w = w' := by
  by_cases h1 : a < 55296
  · clear h
    go_enter Tryd.func61, Tryd.ntmps61
    go_wp2
    go_ret2
    exact ⟨rfl, rfl⟩
  · by_cases h2 : 56320 ≤ a
    · clear h
      go_enter Tryd.func61, Tryd.ntmps61
      go_wp2
      go_ret2
      exact ⟨rfl, rfl⟩
    · by_cases h3 : b < 56320
      · clear h
        go_enter Tryd.func61, Tryd.ntmps61
        go_wp2
        go_ret2
        exact ⟨rfl, rfl⟩
      · have h4 : 57343 < b := by omega
        clear h
        go_enter Tryd.func61, Tryd.ntmps61
        go_wp2
        go_ret2
        exact ⟨rfl, rfl⟩































theorem cv (w : World) (xs : List Int) (n : Nat) (hn : xs.length = n) :
    Sem.run Tryd.prog (convert 39 9 (.slice (some ⟨w.heap.size + 1, 0, none⟩) n n)) ((w.alloc (.cells #[] 5)).alloc (.cells (xs.map (Value.int .u8)).toArray 5)) =
      .ok (.string (strOfNums xs)) ((w.alloc (.cells #[] 5)).alloc (.cells (xs.map (Value.int .u8)).toArray 5)) :=
  run_convert_bytes_arg (P := Tryd.prog) _ 39 5 Tryd.underlying39 Tryd.underlying5 (w.heap.size + 1) 0 n n xs hn (fun i hi => by
    have hb := cell_of_row ((w.alloc (.cells #[] 5)).alloc (.cells (xs.map (Value.int .u8)).toArray 5)) (w.heap.size + 1) (0 + i) (xs.map (Value.int .u8)).toArray 5 (0, 0)
      (by have := heap_alloc_new (w.alloc (.cells #[] 5)) (.cells (xs.map (Value.int .u8)).toArray 5); simpa using this)
    rw [hb]
    have : i < xs.length := by omega
    simp [List.getD, this]) 9 Tryd.underlying9

theorem cv1 (w : World) (z : Int) :
    Sem.run Tryd.prog (convert 39 9 (.slice (some ⟨w.heap.size + 1, 0, none⟩) 1 1)) ((w.alloc (.cells #[] 5)).alloc (.cells #[.int .u8 z] 5)) =
      .ok (.string (strOfNums [z])) ((w.alloc (.cells #[] 5)).alloc (.cells #[.int .u8 z] 5)) := cv w [z] 1 rfl
theorem cv2 (w : World) (z y : Int) :
    Sem.run Tryd.prog (convert 39 9 (.slice (some ⟨w.heap.size + 1, 0, none⟩) 2 2)) ((w.alloc (.cells #[] 5)).alloc (.cells #[.int .u8 z, .int .u8 y] 5)) =
      .ok (.string (strOfNums [z, y])) ((w.alloc (.cells #[] 5)).alloc (.cells #[.int .u8 z, .int .u8 y] 5)) := cv w [z, y] 2 rfl
theorem cv3 (w : World) (z y x : Int) :
    Sem.run Tryd.prog (convert 39 9 (.slice (some ⟨w.heap.size + 1, 0, none⟩) 3 3)) ((w.alloc (.cells #[] 5)).alloc (.cells #[.int .u8 z, .int .u8 y, .int .u8 x] 5)) =
      .ok (.string (strOfNums [z, y, x])) ((w.alloc (.cells #[] 5)).alloc (.cells #[.int .u8 z, .int .u8 y, .int .u8 x] 5)) := cv w [z, y, x] 3 rfl
theorem cv4 (w : World) (z y x u : Int) :
    Sem.run Tryd.prog (convert 39 9 (.slice (some ⟨w.heap.size + 1, 0, none⟩) 4 4)) ((w.alloc (.cells #[] 5)).alloc (.cells #[.int .u8 z, .int .u8 y, .int .u8 x, .int .u8 u] 5)) =
      .ok (.string (strOfNums [z, y, x, u])) ((w.alloc (.cells #[] 5)).alloc (.cells #[.int .u8 z, .int .u8 y, .int .u8 x, .int .u8 u] 5)) := cv w [z, y, x, u] 4 rfl










































end Go.Proofs.YtnlpdpbmmpeiaaaDoor
