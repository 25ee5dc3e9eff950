/- The laws' first lines; what the laws say of strings, as mathematics. -/
import Derived.Test.YtfccfijjojnbbaaDoorQpr
import Derived.Test.YtfccfijjojnbbaaDoorQqt
namespace Go.Proofs.YtfccfijjojnbbaaDoor
open Go.RowKit

theorem parse_ex : parseR [34, 97, 92, 117, 48, 48, 101, 57, 34] = some [97, 195, 169] := by decide +kernel
theorem quote_ex : quoteL [10] = [34, 92, 110, 34] := by decide +kernel
theorem valid_ex : vld ⟨#[10]⟩ 1 0 = true := by decide +kernel

set_option maxHeartbeats 400000 in
theorem alive_any (w : World) (a : Addr) (hC : CondS w a) :
    Calls Tryd.prog 9 #[] w fun e w' => e = .returned (.bool true) ∧ Below w.heap.size w w' := by
  have hP := parse_any ⟨#[34, 97, 92, 117, 48, 48, 101, 57, 34]⟩ w a hC (by decide) parse_ex
  have hQ := fun w hC => quote_good ⟨#[10]⟩ w a hC (by decide) valid_ex
  rw [show (⟨#[10]⟩ : ByteArray).data.toList = [10] from rfl, quote_ex] at hQ
  simp only [parseV, quoteV] at hP hQ
  have HC := Lib.hid hC
  clear hC
  have hnl := fun (w : World) => @run_eql_nil_nil_at Tryd.prog w 24 (by kernel_rfl)
  go_enter Tryd.func9, Tryd.ntmps9
  go_wp2_with fail
  refine hP.mono ?_
  rintro e w1 ⟨rfl, hb1⟩
  clear hP
  go_wp2_with fail
  refine (hQ _ (HC.out.below hb1)).mono ?_
  rintro e w2 ⟨rfl, hb2⟩
  clear hQ
  go_wp2
  go_ret
  exact ⟨by first | rfl | simp, hb1.trans (hb2.mono hb1.size)⟩

/-- the text between quotation marks -/
def inQ (a : ByteArray) : ByteArray := ⟨#[34]⟩ ++ a ++ ⟨#[34]⟩
theorem inQ_list (a : ByteArray) : (inQ a).data.toList = 34 :: (a.data.toList ++ [34]) := by
  unfold inQ
  rw [app_list, app_list]
  rfl
theorem inQ_size (a : ByteArray) : (inQ a).size = a.size + 2 := by
  rw [← size_list, inQ_list]
  simp

/-- a whole text that is a string: what stands between its marks -/
theorem parse_inQ {a : ByteArray} {x : List UInt8} (h : parseR (inQ a).data.toList = some x) : ∃ ps, Body a.data.toList ps ∧ x = encLB ps := by
  obtain ⟨b, ps, h1, h2, h3⟩ := takeL_whole (parseR_some h)
  rw [inQ_list] at h1
  simp only [List.cons.injEq, true_and] at h1
  rw [List.append_cancel_right h1]
  exact ⟨ps, h2, h3⟩
theorem parse_of_body {b : List UInt8} {ps : List Int} (h : Body b ps) : parseR (34 :: (b ++ [34])) = some (encLB ps) :=
  parseR_of (by rw [takeL_body h []]; simp)
theorem parse_two {a b : ByteArray} {x y : List UInt8} (h1 : parseR (inQ a).data.toList = some x) (h2 : parseR (inQ b).data.toList = some y) : parseR (34 :: (a.data.toList ++ b.data.toList ++ [34])) = some (x ++ y) := by
  obtain ⟨p, hp, rfl⟩ := parse_inQ h1
  obtain ⟨q, hq, rfl⟩ := parse_inQ h2
  rw [← encLB_append]
  exact parse_of_body (hp.append hq)
theorem parse_valid {a : ByteArray} {x : List UInt8} (h : parseR (inQ a).data.toList = some x) : vld ⟨x.toArray⟩ (⟨x.toArray⟩ : ByteArray).size 0 = true ∧ x.length ≤ a.size := by
  obtain ⟨p, hp, rfl⟩ := parse_inQ h
  refine ⟨vd_of (fun r hr => hp.pts r hr) rfl, ?_⟩
  have := hp.le
  rwa [size_list] at this

/-- two valid texts are one -/
theorem valid_two {a b : ByteArray} (h1 : vld a a.size 0 = true) (h2 : vld b b.size 0 = true) : vld (a ++ b) (a ++ b).size 0 = true := by
  obtain ⟨p1, p2⟩ := vd_pts h1
  obtain ⟨q1, q2⟩ := vd_pts h2
  refine vd_of (l := ptsD a a.size 0 ++ ptsD b b.size 0) (fun r hr => ?_) ?_
  · rcases List.mem_append.1 hr with h | h
    · exact p2 r h
    · exact q2 r h
  · rw [app_list, encLB_append, ← p1, ← q1]
theorem quote_two (a b : ByteArray) : (⟨(quoteL (a ++ b).data.toList).toArray⟩ : ByteArray) = (⟨(quoteL a.data.toList).toArray⟩ : ByteArray).extract 0 ((⟨(quoteL a.data.toList).toArray⟩ : ByteArray).size - 1) ++ (⟨(quoteL b.data.toList).toArray⟩ : ByteArray).extract 1 (⟨(quoteL b.data.toList).toArray⟩ : ByteArray).size := by
  refine ba_eq ?_
  rw [app_list a b, app_list, cut_two, ext_list, toBA, toBA, toBA]
  have e1 : (⟨(quoteL a.data.toList).toArray⟩ : ByteArray).size = (bodyT a.data.toList).length + 2 := by
    rw [← size_list, toBA]; unfold quoteL; simp
  rw [e1]
  unfold quoteL
  rw [bodyT_append]
  have e2 : (34 :: (bodyT a.data.toList ++ [34])).take ((bodyT a.data.toList).length + 2 - 1 - 0) = 34 :: bodyT a.data.toList := by
    rw [show (bodyT a.data.toList).length + 2 - 1 - 0 = (bodyT a.data.toList).length + 1 by omega, List.take_succ_cons, List.take_left]
  rw [List.drop_zero, e2]
  simp
theorem quote_size (a : ByteArray) (h : a.size ≤ 1000) : 2 ≤ (⟨(quoteL a.data.toList).toArray⟩ : ByteArray).size ∧ (⟨(quoteL a.data.toList).toArray⟩ : ByteArray).size ≤ 6002 := by
  have := bodyT_len a.data.toList
  rw [size_list] at this
  rw [← size_list, toBA]
  unfold quoteL
  simp only [List.length_cons, List.length_append, List.length_nil]
  omega

/-- whether the text's string is the text between quotation marks -/
theorem quote_is (a : ByteArray) {b : Bool} (h : b = true ↔ ∀ c ∈ a.data.toList, escB c.toNat = []) : ((⟨(quoteL a.data.toList).toArray⟩ : ByteArray).toList == (⟨#[34]⟩ ++ a ++ ⟨#[34]⟩ : ByteArray).toList) = b := by
  have e : (⟨#[34]⟩ ++ a ++ ⟨#[34]⟩ : ByteArray).toList = 34 :: (a.data.toList ++ [34]) := by
    rw [ByteArray.toList_eq]; exact inQ_list a
  rw [e, ByteArray.toList_eq, toBA]
  cases hb : b with
  | true => rw [beq_iff_eq]; exact (quote_self _).2 (h.1 hb)
  | false =>
    rw [beq_eq_false_iff_ne]
    intro he
    have := h.2 ((quote_self _).1 he)
    rw [hb] at this
    cases this

end Go.Proofs.YtfccfijjojnbbaaDoor
