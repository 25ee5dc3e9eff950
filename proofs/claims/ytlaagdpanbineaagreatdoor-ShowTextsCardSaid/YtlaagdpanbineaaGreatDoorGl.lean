/- The program's reader of JSON: leaf. -/
import Derived.Test.YtlaagdpanbineaaGreatDoorGy
namespace Go.Proofs.YtlaagdpanbineaaGreatDoor
open Go.RowKit
open I2 (errVal errVal_some errVal_none takeR bAt)

theorem pre_at (s : ByteArray) (k : Nat) (W : ByteArray) (b : Bool) (h : W.data.toList.isPrefixOf (s.data.toList.drop k) = b) (w : World) :
    Calls Tryz.prog 52 #[.string (s.extract k s.size), .string W] w fun e w' => e = .returned (.bool b) ∧ w' = w :=
  (Tryz.strings_HasPrefix (s.extract k s.size) W w).mono fun e w' ⟨he, hw⟩ => ⟨by rw [he, ← h, ext_list]; rfl, hw⟩

theorem takeR_bad {l : List UInt8} {v : Int} {z e : Nat} (h : takeR l = (v, z, some e)) : v = 0 ∧ z = 0 := by
  unfold takeR at h
  split at h
  · simp only [Prod.mk.injEq] at h; exact ⟨h.1.symm, h.2.1.symm⟩
  · split at h
    · simp at h
    · simp only [Prod.mk.injEq] at h; exact ⟨h.1.symm, h.2.1.symm⟩
theorem rest_size (s : ByteArray) (k : Nat) (hk : k < s.size) : 0 < (s.extract k s.size).size := by rw [ByteArray.size_extract]; omega
theorem rest_hd (s : ByteArray) (k : Nat) (hk : k < s.size) : (s.extract k s.size)[0]'(rest_size s k hk) = s[k] := by
  simp [ByteArray.getElem_extract]
def NilV : Value := .slice none 0 0
section
variable (R B : Nat) (s : ByteArray) (k c c1 : Nat) (hv : Value) (L : LV) (w : World) (A : Nat → Addr)

def LeafOk (v : NT) (z : Nat) (w w' : World) : Prop := ∃ (kd n : Int) (t : List UInt8), v = .mk kd n t [] [] ∧ RdP w' R s z c hv ⟨.int .i64 kd, .int .i64 n, .string ⟨t.toArray⟩, .slice none 0 0, .slice none 0 0⟩ ∧ w.grownBy w' (some R)
def LeafPost (res : Res) (w : World) (e : Ending) (w' : World) : Prop := match res with
  | .bad e0 => 0 < e0 ∧ e = .returned (errVal A (some (e0 - 1))) ∧ w.grownBy w' (some R)
  | .ok v r _ => e = .returned .nilIface ∧ ∃ z, z ≤ s.size ∧ s.data.toList.drop z = r ∧ LeafOk R s c hv v z w w'

/-- what lies in memory behind the kind's store -/
structure LeafA (kd : Int) (w w3 : World) : Prop where
  rd : RdP w3 R s k c hv ⟨.int .i64 kd, .int .i64 0, .string ⟨#[]⟩, .slice none 0 0, .slice none 0 0⟩
  gb : w.grownBy w3 (some R)
theorem leafA_of (kd : Int) (h : RdP w R s k c hv L) (d : Nat) : LeafA R s k c hv kd w (((((((w.drewN d).setCell ⟨R, 4, none⟩ (.int .i64 0)).setCell ⟨R, 5, none⟩ (.int .i64 0)).setCell ⟨R, 6, none⟩ (.string ⟨#[]⟩)).setCell ⟨R, 7, none⟩ (.slice none 0 0)).setCell ⟨R, 8, none⟩ (.slice none 0 0)).setCell ⟨R, 4, none⟩ (.int .i64 kd)) :=
  ⟨((((((show RdP (w.drewN d) R s k c hv L from h).set4 _).set5 _).set6 _).set7 _).set8 _).set4 _, gb_set (gb_set (gb_set (gb_set (gb_set (gb_set (gb_drewN (gb_refl _ _) d) _) _) _) _) _) _⟩
theorem LeafA.drewN {w3 : World} {kd : Int} (h : LeafA R s k c hv kd w w3) (d : Nat) : LeafA R s k c hv kd w (w3.drewN d) := ⟨h.rd, gb_drewN h.gb d⟩

set_option maxRecDepth 100000 in
set_option maxHeartbeats 2000000 in
theorem leaf_null (h : RdP w R s k c hv L) (hs : s.size ≤ 200000) (hk : k < s.size) (p1 : [110, 117, 108, 108].isPrefixOf (s.data.toList.drop k) = true) :
    Calls Tryz.prog 30 #[.pointer (some ⟨R, 0, none⟩)] w (LeafPost R s c hv A (.ok (litN 1) ((s.data.toList.drop k).drop 4) c1) w) := by
  have hk2 : k + 4 ≤ s.size := by
    have := (List.isPrefixOf_iff_prefix.1 p1).length_le
    rw [List.length_drop, size_list] at this
    simp at this
    omega
  have r0 := h.c0
  have r1 := h.c1
  have r4 := h.c4
  have r5 := h.c5
  have r6 := h.c6
  have r7 := h.c7
  have r8 := h.c8
  have f := h.fz
  have hP1 := pre_at s k ⟨#[110, 117, 108, 108]⟩ true p1
  have hLA := leafA_of R s k c hv L w 1 h
  have hs3 := fun d => (hLA d).rd.set1 (k + 4)
  have hc : ((k + 4 : Nat) : Int) = (k : Int) + 4 := by omega
  rw [hc] at hs3
  have HS3 := Lib.hid hs3
  have HG := Lib.hid (fun d => (hLA d).gb)
  clear hs3 hc hLA h p1
  go_enter Tryz.func30, Tryz.ntmps30
  go_wp2
  go_quiet (fail)
  go_wp2_with fail
  refine (hP1 _).mono ?_
  rintro e w' ⟨rfl, rfl⟩
  clear hP1
  go_wp2
  go_ret
  exact ⟨rfl, k + 4, hk2, by rw [List.drop_drop], 1, 0, [], rfl, HS3.out _, gb_set (HG.out _) _⟩

set_option maxRecDepth 100000 in
set_option maxHeartbeats 2000000 in
theorem leaf_false (h : RdP w R s k c hv L) (hs : s.size ≤ 200000) (hk : k < s.size) (p1 : [110, 117, 108, 108].isPrefixOf (s.data.toList.drop k) = false) (p2 : [102, 97, 108, 115, 101].isPrefixOf (s.data.toList.drop k) = true) :
    Calls Tryz.prog 30 #[.pointer (some ⟨R, 0, none⟩)] w (LeafPost R s c hv A (.ok (litN 2) ((s.data.toList.drop k).drop 5) c1) w) := by
  have hk2 : k + 5 ≤ s.size := by
    have := (List.isPrefixOf_iff_prefix.1 p2).length_le
    rw [List.length_drop, size_list] at this
    simp at this
    omega
  have r0 := h.c0
  have r1 := h.c1
  have r4 := h.c4
  have r5 := h.c5
  have r6 := h.c6
  have r7 := h.c7
  have r8 := h.c8
  have f := h.fz
  have hP1 := pre_at s k ⟨#[110, 117, 108, 108]⟩ false p1
  have hP2 := pre_at s k ⟨#[102, 97, 108, 115, 101]⟩ true p2
  have hLA := leafA_of R s k c hv L w 2 h
  have hs3 := fun d => (hLA d).rd.set1 (k + 5)
  have hc : ((k + 5 : Nat) : Int) = (k : Int) + 5 := by omega
  rw [hc] at hs3
  have HS3 := Lib.hid hs3
  have HG := Lib.hid (fun d => (hLA d).gb)
  clear hs3 hc hLA h p1 p2
  go_enter Tryz.func30, Tryz.ntmps30
  go_wp2
  go_quiet (fail)
  go_wp2_with fail
  refine (hP1 _).mono ?_
  rintro e w' ⟨rfl, rfl⟩
  clear hP1
  go_wp2_with fail
  refine (hP2 _).mono ?_
  rintro e w' ⟨rfl, rfl⟩
  clear hP2
  go_wp2
  go_ret
  exact ⟨rfl, k + 5, hk2, by rw [List.drop_drop], 2, 0, [], rfl, HS3.out _, gb_set (HG.out _) _⟩

set_option maxRecDepth 100000 in
set_option maxHeartbeats 2000000 in
theorem leaf_true (h : RdP w R s k c hv L) (hs : s.size ≤ 200000) (hk : k < s.size) (p1 : [110, 117, 108, 108].isPrefixOf (s.data.toList.drop k) = false) (p2 : [102, 97, 108, 115, 101].isPrefixOf (s.data.toList.drop k) = false) (p3 : [116, 114, 117, 101].isPrefixOf (s.data.toList.drop k) = true) :
    Calls Tryz.prog 30 #[.pointer (some ⟨R, 0, none⟩)] w (LeafPost R s c hv A (.ok (litN 3) ((s.data.toList.drop k).drop 4) c1) w) := by
  have hk2 : k + 4 ≤ s.size := by
    have := (List.isPrefixOf_iff_prefix.1 p3).length_le
    rw [List.length_drop, size_list] at this
    simp at this
    omega
  have r0 := h.c0
  have r1 := h.c1
  have r4 := h.c4
  have r5 := h.c5
  have r6 := h.c6
  have r7 := h.c7
  have r8 := h.c8
  have f := h.fz
  have hP1 := pre_at s k ⟨#[110, 117, 108, 108]⟩ false p1
  have hP2 := pre_at s k ⟨#[102, 97, 108, 115, 101]⟩ false p2
  have hP3 := pre_at s k ⟨#[116, 114, 117, 101]⟩ true p3
  have hLA := leafA_of R s k c hv L w 3 h
  have hs3 := fun d => (hLA d).rd.set1 (k + 4)
  have hc : ((k + 4 : Nat) : Int) = (k : Int) + 4 := by omega
  rw [hc] at hs3
  have HS3 := Lib.hid hs3
  have HG := Lib.hid (fun d => (hLA d).gb)
  clear hs3 hc hLA h p1 p2 p3
  go_enter Tryz.func30, Tryz.ntmps30
  go_wp2
  go_quiet (fail)
  go_wp2_with fail
  refine (hP1 _).mono ?_
  rintro e w' ⟨rfl, rfl⟩
  clear hP1
  go_wp2_with fail
  refine (hP2 _).mono ?_
  rintro e w' ⟨rfl, rfl⟩
  clear hP2
  go_wp2_with fail
  refine (hP3 _).mono ?_
  rintro e w' ⟨rfl, rfl⟩
  clear hP3
  go_wp2
  go_ret
  exact ⟨rfl, k + 4, hk2, by rw [List.drop_drop], 3, 0, [], rfl, HS3.out _, gb_set (HG.out _) _⟩

set_option maxRecDepth 100000 in
set_option maxHeartbeats 2000000 in
theorem leaf_str (h : RdP w R s k c hv L) (hC : CondB B w A) (hBR : B ≤ R) (hs : s.size ≤ 200000) (hk : k < s.size) (p1 : [110, 117, 108, 108].isPrefixOf (s.data.toList.drop k) = false) (p2 : [102, 97, 108, 115, 101].isPrefixOf (s.data.toList.drop k) = false) (p3 : [116, 114, 117, 101].isPrefixOf (s.data.toList.drop k) = false) (h34 : s[k].toNat = 34) {o : Option (List UInt8 × Nat)} (ho : takeL (s.data.toList.drop k) = o) :
    Calls Tryz.prog 30 #[.pointer (some ⟨R, 0, none⟩)] w (LeafPost R s c hv A (strR (s.data.toList.drop k) c1) w) := by
  have r0 := h.c0
  have r1 := h.c1
  have r4 := h.c4
  have r5 := h.c5
  have r6 := h.c6
  have r7 := h.c7
  have r8 := h.c8
  have f := h.fz
  have hP1 := pre_at s k ⟨#[110, 117, 108, 108]⟩ false p1
  have hP2 := pre_at s k ⟨#[102, 97, 108, 115, 101]⟩ false p2
  have hP3 := pre_at s k ⟨#[116, 114, 117, 101]⟩ false p3
  have hLA := leafA_of R s k c hv L w 5 h
  have HLA := Lib.hid hLA
  have HC := Lib.hid hC
  have HO := Lib.hid ho
  have hx0 : 0 < s.size - k := by omega
  have q34 : ((((s.extract k s.size)[0]'(rest_size s k hk)).toNat : Int) == 34) = true := by rw [rest_hd s k hk, h34]; rfl
  clear hLA h p1 p2 p3 hC ho h34
  go_enter Tryz.func30, Tryz.ntmps30
  go_wp2
  go_quiet (fail)
  go_wp2_with fail
  refine (hP1 _).mono ?_
  rintro e w' ⟨rfl, rfl⟩
  clear hP1
  go_wp2_with fail
  refine (hP2 _).mono ?_
  rintro e w' ⟨rfl, rfl⟩
  clear hP2
  go_wp2_with fail
  refine (hP3 _).mono ?_
  rintro e w' ⟨rfl, rfl⟩
  clear hP3
  go_upto_region 15 with fail
  refine wp_gen (fun w3 => Hid (LeafA R s k c hv 5 w w3)) (HLA.out nq) ?_
  intro w3 HA
  clear HLA r0 r1 r4 r5 r6 r7 r8 f
  have hC3 := HC.out.row HA.out.gb hBR
  have hQ := fun W (hb : Below w3.heap.size w3 W) => take_any s ((k : Nat) : Int) W (A 0) (hC3.cond.s.below hb) hs (o := o) (by rw [restQ_in]; exact HO.out)
  have r0 := HA.out.rd.c0
  have r1 := HA.out.rd.c1
  clear hC3
  cases o with
  | none =>
    simp only [takeV, synV] at hQ
    go_region_with (go_at_call 53; refine (hQ w3.drew ⟨rfl, rfl, rfl, Nat.le_refl _, fun _ _ => rfl⟩).mono ?_; rintro y w2 ⟨rfl, hb2⟩; have hb3 : Below w3.heap.size w3 w2 := ⟨hb2.os, hb2.tape, hb2.output, hb2.size, hb2.block⟩; have hR2 := HA.out.rd.below hb3; have k6 := hR2.c6; have f6 := hR2.fz; have k1 := hR2.c1)
    all_goals
      have HR2 := Lib.hid hR2
      have HB3 := Lib.hid hb3
      clear hR2 hb3 hb2
      go_wp2
      go_ret
      unfold strR
      rw [HO.out]
      exact ⟨by omega, rfl, gb_set (gb_set (gb_below HA.out.gb HB3.out) _) _⟩
  | some p =>
    obtain ⟨x, m⟩ := p
    have hml := takeL_len HO.out
    rw [List.length_drop, size_list] at hml
    have hkm : k + m ≤ s.size := by omega
    obtain ⟨X, hX⟩ : ∃ X : ByteArray, (⟨x.toArray⟩ : ByteArray) = X := ⟨_, rfl⟩
    have HX := Lib.hid hX
    simp only [takeV] at hQ
    rw [hX] at hQ
    have hc : ((k + m : Nat) : Int) = (k : Int) + m := by omega
    have HS := Lib.hid (fun (w2 : World) (h : RdP w2 R s k c hv ⟨.int .i64 5, .int .i64 0, .string ⟨#[]⟩, .slice none 0 0, .slice none 0 0⟩) => (h.set6 (.string X)).set1 (k + m))
    rw [hc] at HS
    clear hX hc hml
    go_region_with (go_at_call 53; refine (hQ w3.drew ⟨rfl, rfl, rfl, Nat.le_refl _, fun _ _ => rfl⟩).mono ?_; rintro y w2 ⟨rfl, hb2⟩; have hb3 : Below w3.heap.size w3 w2 := ⟨hb2.os, hb2.tape, hb2.output, hb2.size, hb2.block⟩; have hR2 := HA.out.rd.below hb3; have k6 := hR2.c6; have f6 := hR2.fz; have k1 := hR2.c1)
    all_goals
      have HR2 := Lib.hid hR2
      have HB3 := Lib.hid hb3
      clear hR2 hb3 hb2
      go_wp2
      go_ret
      unfold strR
      rw [HO.out]
      exact ⟨rfl, k + m, hkm, by rw [List.drop_drop], 5, 0, x, rfl, by rw [HX.out]; exact HS.out _ HR2.out, gb_set (gb_set (gb_below HA.out.gb HB3.out) _) _⟩

set_option maxRecDepth 100000 in
set_option maxHeartbeats 2000000 in
theorem leaf_num (h : RdP w R s k c hv L) (hC : CondB B w A) (hBR : B ≤ R) (hs : s.size ≤ 200000) (hk : k < s.size) (p1 : [110, 117, 108, 108].isPrefixOf (s.data.toList.drop k) = false) (p2 : [102, 97, 108, 115, 101].isPrefixOf (s.data.toList.drop k) = false) (p3 : [116, 114, 117, 101].isPrefixOf (s.data.toList.drop k) = false) (h34 : s[k].toNat ≠ 34) {v : Int} {z : Nat} {o : Option Nat} (ho : I2.takeR (s.data.toList.drop k) = (v, z, o)) :
    Calls Tryz.prog 30 #[.pointer (some ⟨R, 0, none⟩)] w (LeafPost R s c hv A (numR (s.data.toList.drop k) c1) w) := by
  have r0 := h.c0
  have r1 := h.c1
  have r4 := h.c4
  have r5 := h.c5
  have r6 := h.c6
  have r7 := h.c7
  have r8 := h.c8
  have f := h.fz
  have hP1 := pre_at s k ⟨#[110, 117, 108, 108]⟩ false p1
  have hP2 := pre_at s k ⟨#[102, 97, 108, 115, 101]⟩ false p2
  have hP3 := pre_at s k ⟨#[116, 114, 117, 101]⟩ false p3
  have hLA := leafA_of R s k c hv L w 4 h
  have HLA := Lib.hid hLA
  have HC := Lib.hid hC
  have HO := Lib.hid ho
  have hx0 : 0 < s.size - k := by omega
  have q34 : ((((s.extract k s.size)[0]'(rest_size s k hk)).toNat : Int) == 34) = false := by rw [rest_hd s k hk]; simp; omega
  clear hLA h p1 p2 p3 hC ho h34
  go_enter Tryz.func30, Tryz.ntmps30
  go_wp2
  go_quiet (fail)
  go_wp2_with fail
  refine (hP1 _).mono ?_
  rintro e w' ⟨rfl, rfl⟩
  clear hP1
  go_wp2_with fail
  refine (hP2 _).mono ?_
  rintro e w' ⟨rfl, rfl⟩
  clear hP2
  go_wp2_with fail
  refine (hP3 _).mono ?_
  rintro e w' ⟨rfl, rfl⟩
  clear hP3
  go_upto_region 6 with fail
  refine wp_gen (fun w3 => Hid (LeafA R s k c hv 4 w w3)) (HLA.out nq) ?_
  intro w3 HA
  clear HLA r0 r1 r4 r5 r6 r7 r8 f
  have hC3 := HC.out.row HA.out.gb hBR
  have hQ := fun W (hb : Below w3.heap.size w3 W) => I2.take_any s ((k : Nat) : Int) W A ((hC3.cond.below hb).n) hs (v := v) (z := z) (o := o) (by rw [I2.restL_in]; exact HO.out)
  have r0 := HA.out.rd.c0
  have r1 := HA.out.rd.c1
  clear hC3
  cases o with
  | some e0 =>
    obtain ⟨rfl, rfl⟩ : v = 0 ∧ z = 0 := takeR_bad HO.out
    rw [errVal_some] at hQ
    go_region_with (go_at_call 54; refine (hQ w3.drew ⟨rfl, rfl, rfl, Nat.le_refl _, fun _ _ => rfl⟩).mono ?_; rintro y w2 ⟨rfl, hb2⟩; have hb3 : Below w3.heap.size w3 w2 := ⟨hb2.os, hb2.tape, hb2.output, hb2.size, hb2.block⟩; have hR2 := HA.out.rd.below hb3; have k6 := hR2.c5; have f6 := hR2.fz; have k1 := hR2.c1)
    all_goals
      have HR2 := Lib.hid hR2
      have HB3 := Lib.hid hb3
      clear hR2 hb3 hb2
      go_wp2
      go_ret
      unfold numR
      rw [HO.out]
      exact ⟨by omega, rfl, gb_set (gb_set (gb_below HA.out.gb HB3.out) _) _⟩
  | none =>
    have hml := takeR_size HO.out
    rw [List.length_drop, size_list] at hml
    have hkm : k + z ≤ s.size := by omega
    rw [errVal_none] at hQ
    have hc : ((k + z : Nat) : Int) = (k : Int) + z := by omega
    have HS := Lib.hid (fun (w2 : World) (h : RdP w2 R s k c hv ⟨.int .i64 4, .int .i64 0, .string ⟨#[]⟩, .slice none 0 0, .slice none 0 0⟩) => (h.set5 (.int .i64 v)).set1 (k + z))
    rw [hc] at HS
    clear hc hml
    go_region_with (go_at_call 54; refine (hQ w3.drew ⟨rfl, rfl, rfl, Nat.le_refl _, fun _ _ => rfl⟩).mono ?_; rintro y w2 ⟨rfl, hb2⟩; have hb3 : Below w3.heap.size w3 w2 := ⟨hb2.os, hb2.tape, hb2.output, hb2.size, hb2.block⟩; have hR2 := HA.out.rd.below hb3; have k6 := hR2.c5; have f6 := hR2.fz; have k1 := hR2.c1)
    all_goals
      have HR2 := Lib.hid hR2
      have HB3 := Lib.hid hb3
      clear hR2 hb3 hb2
      go_wp2
      go_ret
      unfold numR
      rw [HO.out]
      exact ⟨rfl, k + z, hkm, by rw [List.drop_drop], 4, v, [], rfl, HS.out _ HR2.out, gb_set (gb_set (gb_below HA.out.gb HB3.out) _) _⟩

theorem leaf_any (h : RdP w R s k c hv L) (hC : CondB B w A) (hBR : B ≤ R) (hs : s.size ≤ 200000) (hk : k < s.size) :
    Calls Tryz.prog 30 #[.pointer (some ⟨R, 0, none⟩)] w (LeafPost R s c hv A (leafR (s.data.toList.drop k) c1) w) := by
  unfold leafR
  by_cases p1 : wNull.isPrefixOf (s.data.toList.drop k) = true
  · rw [if_pos p1]; exact leaf_null R s k c c1 hv L w A h hs hk p1
  rw [if_neg p1]
  by_cases p2 : wFalse.isPrefixOf (s.data.toList.drop k) = true
  · rw [if_pos p2]; exact leaf_false R s k c c1 hv L w A h hs hk (eq_false_of_ne_true p1) p2
  rw [if_neg p2]
  by_cases p3 : wTrue.isPrefixOf (s.data.toList.drop k) = true
  · rw [if_pos p3]; exact leaf_true R s k c c1 hv L w A h hs hk (eq_false_of_ne_true p1) (eq_false_of_ne_true p2) p3
  rw [if_neg p3]
  have hb : bAt (s.data.toList.drop k) 0 = s[k].toNat := by rw [drop_hd hk]; rfl
  rw [hb]
  by_cases h34 : s[k].toNat = 34
  · rw [if_pos h34]; exact leaf_str R B s k c c1 hv L w A h hC hBR hs hk (eq_false_of_ne_true p1) (eq_false_of_ne_true p2) (eq_false_of_ne_true p3) h34 rfl
  · rw [if_neg h34]
    rcases ht : I2.takeR (s.data.toList.drop k) with ⟨v, z, o⟩
    exact leaf_num R B s k c c1 hv L w A h hC hBR hs hk (eq_false_of_ne_true p1) (eq_false_of_ne_true p2) (eq_false_of_ne_true p3) h34 ht
end

end Go.Proofs.YtlaagdpanbineaaGreatDoor

